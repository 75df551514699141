"""Places: the fewest signs of which it must be asked who wrote them, so that all is told."""

from itertools import combinations

from whoseink.companies import rises
from whoseink.errors import TooMany
from whoseink.tellings import is_telling, live_ways, need_sign

MOST_PLACES = 8


def fewest(scroll):
    """A pair (lot, pairs): the first lot of fewest signs that tells all, and what shows it; TooMany."""
    _need_few(scroll)
    tellings = _all_tellings(scroll)
    pairs = []
    for many in range(len(scroll) + 1):
        lesser = pairs
        pairs = []
        for lot in combinations(range(len(scroll)), many):
            if any([_agree(pair, lot) for pair in pairs]):
                continue
            pair = _pair_that_agrees(tellings, lot)
            if pair is None:
                # Two that agree at all of a lot agree at all of each lot within it, too.
                return (lot, lesser)
            pairs.append(pair)
    # Never come to: all signs together tell all.
    return ((), [])


def tells_all(scroll, lot):
    """Whether no two unlike tellings agree at all signs of the lot; NoSign."""
    for at in lot:
        need_sign(scroll, at)
    # The pairs of unlike stands, the lesser first, to which two unlike tellings lead that agree so far.
    pairs = []
    for at, here in enumerate(live_ways(scroll)[:-1]):
        met = {}
        for one, other in [*pairs, *[(stand, stand) for stand in here]]:
            for then, goal in _agreeing(here, one, other, at in lot):
                # From one stand both can go on alike.
                if then == goal:
                    return False
                met[(then, goal) if then < goal else (goal, then)] = True
        pairs = list(met)
    return not pairs


def is_fewest(scroll, lot, pairs):
    """Whether the lot tells all, and the pairs show that none with fewer signs does; NoSign, TooMany."""
    for at in lot:
        need_sign(scroll, at)
    _need_few(scroll)
    if not rises(lot) or not all([_are_unlike(scroll, one, other) for one, other in pairs]):
        return False
    if not tells_all(scroll, lot):
        return False
    for many in range(len(lot)):
        for lesser in combinations(range(len(scroll)), many):
            if not any([_agree(pair, lesser) for pair in pairs]):
                return False
    return True


def _need_few(scroll):
    if len(scroll) > MOST_PLACES:
        raise TooMany(MOST_PLACES)


def _agreeing(here, one, other, asked):
    """The pairs of stands to which two steps lead by which two tellings are unlike, and agree where asked."""
    return [
        (then, goal) for name, then in here[one] for second, goal in here[other]
        if (name == second and one != other) or (name != second and not asked)
    ]


def _all_tellings(scroll):
    """The rising list of the tellings."""
    rows = [((), stand) for stand in scroll.live()[0]]
    for here in live_ways(scroll)[:-1]:
        rows = [((*names, name), then) for names, stand in rows for name, then in here[stand]]
    return [names for names, _ in rows]


def _pair_that_agrees(tellings, lot):
    """The first two tellings that agree at all signs of the lot, or None."""
    met = {}
    for names in tellings:
        asked = tuple([names[at] for at in lot])
        if asked in met:
            return (met[asked], names)
        met[asked] = names
    return None


def _agree(pair, lot):
    one, other = pair
    return all([one[at] == other[at] for at in lot])


def _are_unlike(scroll, one, other):
    return is_telling(scroll, one) and is_telling(scroll, other) and tuple(one) != tuple(other)
