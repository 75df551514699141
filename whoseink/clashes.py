"""Clashes: the fewest confessions that must be let go so that a telling is left."""

from whoseink.errors import Unwritten
from whoseink.tellings import is_telling


def let_go(scroll):
    """A triple (number, row, sums): the fewest, a telling that breaks just so many, what shows it; Unwritten."""
    free = scroll.freed()
    # Of each stand: how many confessions are broken on the way to it at least, and who writes so.
    best = {free.company(0).begin(): (0, ())}
    levels = [best]
    for at in range(len(scroll)):
        best = _best_behind(scroll, free, at, best)
        if not best:
            raise Unwritten(at)
        levels.append(best)
    number, row = min(list(best.values()))
    return (number, row, [[(stand, level[stand][0]) for stand in sorted(level)] for level in levels])


def breaks(scroll, names):
    """How many confessions the row of as many texts breaks."""
    return sum([_broken(scroll, at, name) for at, name in enumerate(names)])


def is_least(scroll, number, names, sums):
    """Whether the row breaks just so many confessions, and the sums show that none breaks fewer."""
    free = scroll.freed()
    if not is_telling(free, names) or breaks(scroll, names) != number:
        return False
    tables = [{stand: least for stand, least in pairs} for pairs in sums]
    if [len(table) for table in tables] != [len(pairs) for pairs in sums] or len(sums) != len(scroll) + 1:
        return False
    begin = free.company(0).begin()
    if begin not in tables[0] or tables[0][begin] != 0:
        return False
    if not all([tables[-1][stand] >= number for stand in tables[-1]]):
        return False
    return all([_holds(scroll, free, at, tables[at], tables[at + 1]) for at in range(len(scroll))])


def _best_behind(scroll, free, at, best):
    behind = {}
    for stand in best:
        number, row = best[stand]
        for name, then in free.onward(at, stand):
            told = (number + _broken(scroll, at, name), (*row, name))
            if then not in behind or told < behind[then]:
                behind[then] = told
    return behind


def _broken(scroll, at, name):
    """How many confessions of the sign are broken where the name wrote it."""
    return len([so for number, who, so in scroll.said() if number == at and (who == name) != so])


def _holds(scroll, free, at, here, behind):
    """Whether each step by the sign leads to a stand whose number is at most greater by what it breaks."""
    for stand in here:
        if len(stand[0]) != len(scroll.company(at)):
            return False
        for name, then in free.onward(at, stand):
            if then not in behind or behind[then] > here[stand] + _broken(scroll, at, name):
                return False
    return True
