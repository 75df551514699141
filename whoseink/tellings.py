"""Tellings: how many a scroll has, which one bears which number, who may have written a sign."""

from whoseink.errors import BadNumber, NoSign


def how_many(scroll):
    """The number of tellings."""
    return count_of(scroll, scroll.live())


def count_of(scroll, live):
    """The number of tellings, the live lots being known."""
    return _counts(_ways_of(scroll, live))[0].get(_begin(scroll), 0)


def telling(scroll, *, number=0):
    """The telling of that number; BadNumber."""
    ways = live_ways(scroll)
    counts = _counts(ways)
    stand = _begin(scroll)
    if not 0 <= number < counts[0].get(stand, 0):
        raise BadNumber(f"no telling {number}")
    left = number
    names = []
    for at in range(len(scroll)):
        name, then, skipped = _step_of(ways[at][stand], counts[at + 1], left)
        left -= skipped
        names.append(name)
        stand = then
    return tuple(names)


def number_of(scroll, names):
    """The number of the telling, or None where the row of texts is none."""
    if not is_telling(scroll, names):
        return None
    ways = live_ways(scroll)
    counts = _counts(ways)
    stand = _begin(scroll)
    number = 0
    for at, name in enumerate(names):
        goals = ways[at][stand]
        number += sum([counts[at + 1][then] for who, then in goals if who < name])
        stand = _goal(goals, name)
    return number


def is_telling(scroll, names):
    """Whether the row of texts is a telling."""
    if len(names) != len(scroll):
        return False
    stand = _begin(scroll)
    for at, name in enumerate(names):
        stand = _goal(scroll.onward(at, stand), name)
        if stand is None:
            return False
    return True


def may(scroll, at):
    """The rising list of the names that have the sign in some telling; NoSign."""
    need_sign(scroll, at)
    return names_of(scroll, scroll.live(), at)


def names_of(scroll, live, at):
    """The rising list of the names that have the sign in some telling, the live lots being known."""
    goals = {stand: True for stand in live[at + 1]}
    return sorted({name for stand in live[at] for name, then in scroll.onward(at, stand) if then in goals})


def must(scroll, at):
    """The name that has the sign in each telling, or None; NoSign."""
    names = may(scroll, at)
    return names[0] if len(names) == 1 else None


def extreme(scroll, name, *, most=True):
    """A telling with most signs of the name, or with fewest; None where there is no telling."""
    worth = 1 if most else -1
    return _dearest(scroll, lambda at, who: worth if who == name else 0)


def farthest(scroll, names):
    """A telling that differs at most signs from the row of texts; None where there is no telling."""
    row = list(names)
    return _dearest(scroll, lambda at, who: 0 if row[at:at + 1] == [who] else 1)


def need_sign(scroll, at):
    """NoSign, where the scroll has no sign of that number."""
    if not 0 <= at < len(scroll):
        raise NoSign(at)


def live_ways(scroll):
    """For each sign, and behind all, of each live stand the rising (name, live stand behind)."""
    return _ways_of(scroll, scroll.live())


def _ways_of(scroll, live):
    ways = [{stand: [] for stand in live[-1]}]
    for at in reversed(range(len(scroll))):
        goals = ways[-1]
        ways.append({
            stand: sorted([step for step in scroll.onward(at, stand) if step[1] in goals])
            for stand in live[at]
        })
    return ways[::-1]


def _begin(scroll):
    # What comes ahead of the first sign is carried from noughts to noughts.
    return scroll.company(0).begin()


def _counts(ways):
    """For each sign, and behind all, of each live stand how many tellings go on from it."""
    counts = [{stand: 1 for stand in ways[-1]}]
    for here in reversed(ways[:-1]):
        behind = counts[-1]
        counts.append({stand: sum([behind[then] for _, then in here[stand]]) for stand in here})
    return counts[::-1]


def _step_of(goals, counts, number):
    """The step of the telling of that number, and how many tellings are ahead of those that take it."""
    skipped = 0
    for name, then in goals:
        if number < skipped + counts[then]:
            return (name, then, skipped)
        skipped += counts[then]
    return None


def _goal(goals, name):
    """The stand to which the name leads, or None."""
    for who, then in goals:
        if who == name:
            return then
    return None


def _dearest(scroll, worth):
    """The first one of the tellings whose signs are worth most in all, or None."""
    ways = live_ways(scroll)
    # Of each stand: what the signs from there on are worth at most, and who writes them so.
    best = {stand: (0, ()) for stand in ways[-1]}
    for at in reversed(range(len(scroll))):
        behind = best
        best = {}
        for stand in ways[at]:
            rows = [(worth(at, name) + behind[then][0], (name, *behind[then][1])) for name, then in ways[at][stand]]
            best[stand] = max(rows, key=lambda row: row[0])
    begin = _begin(scroll)
    return best[begin][1] if begin in best else None
