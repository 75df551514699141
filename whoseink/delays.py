"""Delays: by how many further signs it is known who wrote a sign, whatever strip comes."""

from whoseink.errors import Still
from whoseink.walks import next_level, ways_from


class Eye:
    """What is seen of two tellings: by which kinds of signs are stamped, and who is asked for."""

    def __init__(self, who, stamps):
        self._who = who
        self._stamped = {(name, sign): True for name, sign in stamps}

    def free(self, name, sign):
        """Whether it isn't seen of such a sign that the name wrote it."""
        return (name, sign) not in self._stamped

    def alike(self, sign, one, other):
        """Whether the sign looks the same by the one name and by the other."""
        return one == other or (self.free(one, sign) and self.free(other, sign))

    def differ(self, one, other):
        """Whether the two names of a sign differ so."""
        if self._who is None:
            return one != other
        return (one == self._who) != (other == self._who)

    def leads(self, company, pair):
        """Each two steps by one sign that are alike to the eye: ((sign, name, name), pair behind)."""
        one, other = pair
        others = company.steps(other)
        return [
            ((sign, name, second), (then, goal))
            for sign, name, then in company.steps(one) for found, second, goal in others
            if found == sign and self.alike(sign, name, second)
        ]


def twice(company, *, stamps=()):
    """A shortest strip with two tellings alike to the eye, or None; TooMany."""
    eye = Eye(None, stamps)
    # Of a company of too many stands nothing is told, near as the strip may lie.
    company.stands()
    found = {company.begin(): ()}
    level = list(found)
    while level:
        for stand in level:
            for (sign, one, other), _ in eye.leads(company, (stand, stand)):
                if one != other:
                    return (*found[stand], sign)
        level = next_level(found, level, lambda each: _signs_on(company, each))
    return None


def delay(company, *, who=None, stamps=()):
    """("known", n, pairs, ranks, shown), or ("ever", at, lead, ring, one, other).

    TooMany, then Still.
    """
    need_never_still(company)
    eye = Eye(who, stamps)
    begin = (company.begin(), company.begin())
    ways = ways_from([begin], lambda each: eye.leads(company, each))
    leads = {pair: eye.leads(company, pair) for pair in ways}
    ranks = _ranks(leads)
    # The ways, with the step by which they differ, and the pairs behind them.
    doubts = [
        ((*ways[pair], step), then)
        for pair in ways for step, then in leads[pair] if eye.differ(step[1], step[2])
    ]
    for way, pair in doubts:
        if pair not in ranks:
            return _told_ever(way, pair, leads, ranks)
    return _told_known(list(ways), doubts, leads, ranks)


def need_never_still(company):
    """TooMany, then Still, where the company can't be asked for a delay."""
    strip = company.still()
    if strip is not None:
        raise Still(strip)


def is_known(company, n, pairs, ranks, *, who=None, stamps=()):
    """Whether the pairs and ranks show that the delay is at most n, n not below nought."""
    eye = Eye(who, stamps)
    known = {(one, other): True for one, other in pairs}
    ranked = {(one, other): rank for one, other, rank in ranks}
    if not all([one <= other for one, other in [*known, *ranked]]):
        return False
    if n < 0 or len(ranked) != len(ranks) or not all([0 <= ranked[pair] < n for pair in ranked]):
        return False
    if (company.begin(), company.begin()) not in known:
        return False
    for pair in known:
        for (_, one, other), then in eye.leads(company, pair):
            behind = _lesser_first(then)
            if behind not in known or (eye.differ(one, other) and behind not in ranked):
                return False
    for pair in ranked:
        behind = [_lesser_first(then) for _, then in eye.leads(company, pair)]
        if not all([each in ranked and ranked[each] < ranked[pair] for each in behind]):
            return False
    return True


def is_doubt(company, strip, one, other, many, *, who=None, stamps=()):
    """Whether these are two tellings of the strip, alike, that differ so just many signs ahead of its end."""
    if not 0 <= many < len(strip):
        return False
    eye = Eye(who, stamps)
    at = len(strip) - 1 - many
    return _are_alike(company, eye, strip, one, other) and eye.differ(one[at], other[at])


def is_ever(company, at, lead, ring, one, other, *, who=None, stamps=()):
    """Whether the lead, the ring and the two tellings show that no number is the delay."""
    if not 0 <= at < len(lead) or len(ring) == 0:
        return False
    eye = Eye(who, stamps)
    strip = [*lead, *ring]
    if not _are_alike(company, eye, strip, one, other) or not eye.differ(one[at], other[at]):
        return False
    rows = [_stands_along(company, strip, names) for names in (one, other)]
    return all([row[len(lead)] == row[-1] for row in rows])


def _signs_on(company, stand):
    return [(sign, then) for sign, _, then in company.steps(stand)]


def _lesser_first(pair):
    one, other = pair
    return (one, other) if one <= other else (other, one)


def _are_alike(company, eye, strip, one, other):
    """Whether both are tellings of the strip, and alike to the eye."""
    if not len(strip) == len(one) == len(other):
        return False
    if _stands_along(company, strip, one) is None or _stands_along(company, strip, other) is None:
        return False
    return all([eye.alike(sign, name, second) for sign, name, second in zip(strip, one, other)])


def _stands_along(company, strip, names):
    """The stands ahead of each sign and behind all, or None where one can't write its sign."""
    stands = [company.begin()]
    for sign, name in zip(strip, names):
        goals = [then for found, who, then in company.steps(stands[-1]) if (found, who) == (sign, name)]
        if not goals:
            return None
        stands.append(goals[0])
    return stands


def _ranks(leads):
    """Of each pair from which no way goes on for ever, of how many signs its longest way is."""
    ahead = {pair: [] for pair in leads}
    for pair in leads:
        for _, then in leads[pair]:
            ahead[then].append(pair)
    lacking = {pair: len(leads[pair]) for pair in leads}
    order = [pair for pair in leads if lacking[pair] == 0]
    ranks = {pair: 0 for pair in order}
    at = 0
    while at < len(order):
        last = order[at]
        for pair in ahead[last]:
            lacking[pair] -= 1
            # Ranks never fall along the order, so what lacked last has the greatest one.
            if lacking[pair] == 0:
                ranks[pair] = ranks[last] + 1
                order.append(pair)
        at += 1
    return ranks


def _told_ever(way, pair, leads, ranks):
    """What is told of a way that differs by its last step, from whose end a way goes on for ever."""
    at = len(way) - 1
    steps = list(way)
    met = {}
    while pair not in met:
        met[pair] = len(steps)
        step, pair = [lead for lead in leads[pair] if lead[1] not in ranks][0]
        steps.append(step)
    strip, one, other = _three_rows(steps)
    return ("ever", at, strip[:met[pair]], strip[met[pair]:], one, other)


def _told_known(pairs, doubts, leads, ranks):
    """What is told where each way behind a step that differs comes to an end."""
    known = sorted({_lesser_first(pair) for pair in pairs})
    if not doubts:
        return ("known", 0, known, [], None)
    behind = ways_from([pair for _, pair in doubts], lambda each: leads[each])
    ranked = sorted({(*_lesser_first(pair), ranks[pair]) for pair in behind})
    way, pair = max(doubts, key=lambda doubt: ranks[doubt[1]])
    n = ranks[pair] + 1
    steps = list(way)
    while ranks[pair] > 0:
        step, pair = max(leads[pair], key=lambda lead: ranks[lead[1]])
        steps.append(step)
    return ("known", n, known, ranked, _three_rows(steps))


def _three_rows(steps):
    """The strip and its two tellings, of a row of steps (sign, name, name)."""
    return tuple([tuple([step[row] for step in steps]) for row in range(3)])
