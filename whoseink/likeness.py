"""Likeness: whether two companies leave the same strips."""

from whoseink.companies import lots_behind, rises
from whoseink.errors import TooMany
from whoseink.walks import next_level

_MOST_PAIRS = 600


def likeness(one, other):
    """("same", pairs), or ("parted", strip), a shortest strip that just one of them leaves.

    TooMany, of the stands of either company, then of the pairs.
    """
    # Of a company of too many stands nothing is told, near as the strip may lie.
    one.stands()
    other.stands()
    start = _begins(one, other)
    found = {start: ()}
    level = [start]
    while level:
        for pair in level:
            for sign, then in _leads(one, other, pair):
                if not (then[0] and then[1]):
                    return ("parted", (*found[pair], sign))
        level = next_level(found, level, lambda each: _leads(one, other, each))
        if len(found) > _MOST_PAIRS:
            raise TooMany(_MOST_PAIRS)
    return ("same", [(list(ours), list(theirs)) for ours, theirs in found])


def is_same(one, other, pairs):
    """Whether the list of pairs of lots shows that both companies leave the same strips."""
    if not all([_is_lot(one, ours) and _is_lot(other, theirs) for ours, theirs in pairs]):
        return False
    known = {(tuple(ours), tuple(theirs)): True for ours, theirs in pairs}
    if _begins(one, other) not in known:
        return False
    # A pair with an empty lot is none of the known ones.
    return all([then in known for pair in known for _, then in _leads(one, other, pair)])


def _begins(one, other):
    return ((one.begin(),), (other.begin(),))


def _is_lot(company, lot):
    """Whether it is a rising lot of stands of as many writers, and not empty."""
    return len(lot) > 0 and rises(lot) and all([len(stand[0]) == len(company) for stand in lot])


def _leads(one, other, pair):
    """The rising list of (sign, pair of lots behind it): each sign by which some lot goes on."""
    ours = lots_behind(one, pair[0])
    theirs = lots_behind(other, pair[1])
    return [(sign, (ours.get(sign, ()), theirs.get(sign, ()))) for sign in sorted({**ours, **theirs})]
