"""Settling: whether some row of signs to come leaves just one name for a sign of a scroll."""

from whoseink.companies import lot_behind, lots_behind, rises
from whoseink.errors import TooMany, Unwritten
from whoseink.tellings import may
from whoseink.walks import next_level

MOST_TUPLES = 600


def settle(scroll, at):
    """("row", signs, name), a shortest row that settles the sign, or ("never", table).

    NoSign, then Unwritten, then TooMany.
    """
    names = may(scroll, at)
    if not names:
        raise Unwritten(0)
    company = scroll.company(len(scroll))
    start = _lots_of(scroll, at, names)
    found = {start: ()}
    level = [start]
    while level:
        for lots in level:
            name = _name_left(names, lots)
            if name is not None:
                return ("row", found[lots], name)
        if len(found) > MOST_TUPLES:
            raise TooMany(MOST_TUPLES)
        level = next_level(found, level, lambda each: _leads(company, each))
    return ("never", [tuple([list(lot) for lot in lots]) for lots in found])


def settles(scroll, at, signs):
    """The name that is left for the sign by the row of signs to come, or None; NoSign."""
    names = may(scroll, at)
    company = scroll.company(len(scroll))
    lots = _lots_of(scroll, at, names)
    for sign in signs:
        lots = tuple([tuple(lot_behind(company, lot, sign)) for lot in lots])
    return _name_left(names, lots)


def is_never(scroll, at, table):
    """Whether the table, a list of tuples of lots, shows that no row settles the sign; NoSign."""
    names = may(scroll, at)
    if not all([len(lots) == len(names) and all([rises(lot) for lot in lots]) for lots in table]):
        return False
    known = {tuple([tuple(lot) for lot in lots]): True for lots in table}
    if _lots_of(scroll, at, names) not in known:
        return False
    company = scroll.company(len(scroll))
    for lots in known:
        if _name_left(names, lots) is not None:
            return False
        if not all([then in known for _, then in _leads(company, lots)]):
            return False
    return True


def _lots_of(scroll, at, names):
    """For each of the names, the rising lot of stands behind the tellings that have it at the sign."""
    here = scroll.forth()[at]
    lots = []
    for name in names:
        lot = sorted({then for stand in here for who, then in scroll.onward(at, stand) if who == name})
        for number in range(at + 1, len(scroll)):
            lot = sorted({then for stand in lot for _, then in scroll.onward(number, stand)})
        lots.append(tuple(lot))
    return tuple(lots)


def _name_left(names, lots):
    """The name whose lot alone isn't empty, or None."""
    left = [name for name, lot in zip(names, lots) if lot]
    return left[0] if len(left) == 1 else None


def _leads(company, lots):
    """The rising list of (sign, lots behind it): each sign by which some lot goes on."""
    goals = [lots_behind(company, lot) for lot in lots]
    signs = sorted({sign for each in goals for sign in each})
    return [(sign, tuple([each.get(sign, ()) for each in goals])) for sign in signs]
