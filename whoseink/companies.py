"""Companies: writers who write by turns, and the stands in which they can be."""

from whoseink.errors import BadWriter, Full, Taken, TooMany
from whoseink.writers import is_writer, writer_text

MOST_WRITERS = 3
MOST_STANDS = 60
_NO_RUN = (-1, 0)


class Company:
    """A row of at most three writers of unlike names; it is never changed."""

    def __init__(self, writers=()):
        _need_company(writers)
        self._writers = tuple(writers)
        # The steps of the stands that were asked of: they are asked of again and again.
        self._found = {}

    def __eq__(self, other):
        return isinstance(other, Company) and self._writers == other._writers

    def __len__(self):
        return len(self._writers)

    def __repr__(self):
        return f"Company({len(self._writers)} writers)"

    def __str__(self):
        return " ".join([writer_text(writer) for writer in self._writers])

    def writers(self):
        """The list of the writers, in order."""
        return list(self._writers)

    def names(self):
        """The list of the writers' names, in order."""
        return [writer[0] for writer in self._writers]

    def begin(self):
        """The stand ahead of all signs."""
        noughts = (0,) * len(self._writers)
        return (noughts, noughts, _NO_RUN)

    def steps(self, stand):
        """The rising list of (sign, name, stand behind): who can write which sign there."""
        if stand not in self._found:
            self._found[stand] = tuple(_steps_of(self._writers, stand))
        return list(self._found[stand])

    def stands(self):
        """The rising list of the stands to which steps lead from the beginning; TooMany."""
        return sorted(_strips_to(self))

    def leaves(self, strip):
        """Whether the company can write the strip, a row of signs."""
        lot = [self.begin()]
        for sign in strip:
            lot = lot_behind(self, lot, sign)
        return len(lot) > 0

    def still(self):
        """A shortest strip at which nobody can write on, or None; TooMany."""
        strips = _strips_to(self)
        # The shorter strips stand ahead of the longer ones.
        for stand in strips:
            if not self.steps(stand):
                return strips[stand]
        return None


def carried(one, other, stand):
    """The stand of the company `other` that the company `one` at that stand becomes."""
    places, waits, run = stand
    elders = one.writers()
    kept = [elders.index(writer) if writer in elders else None for writer in other.writers()]
    return (
        tuple([0 if at is None else places[at] for at in kept]),
        tuple([0 if at is None else waits[at] for at in kept]),
        (kept.index(run[0]), run[1]) if run[0] in kept else _NO_RUN,
    )


def lot_behind(company, lot, sign):
    """The rising list of the stands to which steps by the sign lead from those of the lot."""
    return sorted({then for stand in lot for found, _, then in company.steps(stand) if found == sign})


def lots_behind(company, lot):
    """Of each sign by which the lot goes on, the rising tuple of the stands behind it."""
    behind = {}
    for stand in lot:
        for sign, _, then in company.steps(stand):
            row = behind.setdefault(sign, {})
            row[then] = True
    return {sign: tuple(sorted(behind[sign])) for sign in behind}


def rises(lot):
    """Whether each thing of the lot is greater than the one ahead of it."""
    return all([one < other for one, other in zip(lot, lot[1:])])


def _need_company(writers):
    for at, writer in enumerate(writers):
        if not is_writer(writer):
            raise BadWriter(at)
    names = [writer[0] for writer in writers]
    for at, name in enumerate(names):
        if name in names[:at]:
            raise Taken(name)
    if len(writers) > MOST_WRITERS:
        raise Full("a company has at most three writers")


def _strips_to(company):
    """Each stand of the company with a shortest strip to it, the shorter strips first."""
    order = [company.begin()]
    strips = {order[0]: ()}
    at = 0
    while at < len(order):
        stand = order[at]
        for sign, _, then in company.steps(stand):
            if then not in strips:
                strips[then] = (*strips[stand], sign)
                order.append(then)
        if len(strips) > MOST_STANDS:
            raise TooMany(MOST_STANDS)
        at += 1
    return strips


def _steps_of(writers, stand):
    moves = []
    for at, writer in enumerate(writers):
        if _may_write(writers, stand, at):
            moves.extend([(sign, at, to) for place, sign, to in writer[1] if place == stand[0][at]])
    return [(sign, writers[at][0], _behind(writers, stand, at, to)) for sign, at, to in sorted(moves)]


def _may_write(writers, stand, at):
    """Whether neither its own cap nor another one's patience keeps that writer from writing."""
    _, waits, run = stand
    cap = writers[at][3]
    if cap != 0 and run[0] == at and run[1] >= cap:
        return False
    others = [k for k in range(len(writers)) if k != at and _minds(writers, stand, k)]
    return all([waits[k] < writers[k][2] for k in others])


def _minds(writers, stand, at):
    """Whether that writer has a patience and isn't done."""
    _, arrows, patience, _ = writers[at]
    return patience != 0 and stand[0][at] in [place for place, _, _ in arrows]


def _behind(writers, stand, at, to):
    """The stand behind a sign by that writer, whom it brings to the place `to`."""
    places, waits, run = stand
    then = (*places[:at], to, *places[at + 1:])
    kept = [wait + 1 if k != at and _minds(writers, stand, k) else 0 for k, wait in enumerate(waits)]
    if writers[at][3] == 0:
        return (then, tuple(kept), _NO_RUN)
    many = run[1] + 1 if run[0] == at else 1
    return (then, tuple(kept), (at, many))
