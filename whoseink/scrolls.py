"""Scrolls: a company, its steps, and what was confessed of its signs."""

from whoseink.companies import Company, carried
from whoseink.errors import BadSaid, BadStep, BadWriter, Full, NoSign, Taken
from whoseink.writers import is_name, is_sign

MOST_SIGNS = 24
MOST_TURNS = 12


class Scroll:
    """Signs, the companies that stand at them, and confessions; it is never changed."""

    def __init__(self, company, *, steps=(), said=()):
        self._steps = _read_steps(steps)
        self._signs = [step for step in self._steps if isinstance(step, str)]
        _need_said(said, len(self._signs))
        self._said = [(at, name, so) for at, name, so in said]
        self._chains = _chains(Company(company.writers()), self._steps)

    def __len__(self):
        return len(self._signs)

    def signs(self):
        """The list of the signs."""
        return list(self._signs)

    def company(self, at):
        """The Company at the sign of that number, or behind all; NoSign."""
        if not 0 <= at <= len(self._signs):
            raise NoSign(at)
        return self._chains[at][-1]

    def said(self):
        """The list of the confessions, as they came."""
        return list(self._said)

    def lets(self, at, name):
        """Whether the confessions of the sign of that number let it be of the name; NoSign."""
        if not 0 <= at < len(self._signs):
            raise NoSign(at)
        return all([so == (name == who) for number, who, so in self._said if number == at])

    def forth(self):
        """The lots of stands, a lot for each sign and one behind all, come to by what is let."""
        return self.forth_from([])

    def forth_from(self, known):
        """The lots of forth(), of which the first ones are known."""
        lots = [list(lot) for lot in known] or [[self.turned(0, self._chains[0][0].begin())]]
        for at in range(len(lots) - 1, len(self._signs)):
            lot = sorted({then for stand in lots[at] for _, then in self.onward(at, stand)})
            lots.append(lot)
        return lots

    def live(self):
        """The lots of the stands through which a telling goes."""
        return self.live_of(self.forth())

    def live_of(self, forth):
        """The lots of live(), the lots of forth() being known."""
        lots = [list(forth[-1])]
        for at in reversed(range(len(self._signs))):
            goals = {stand: True for stand in lots[-1]}
            lots.append([
                stand for stand in forth[at]
                if any([then in goals for _, then in self.onward(at, stand)])
            ])
        return lots[::-1]

    def more(self, steps):
        """The Scroll with these steps more; BadStep, with the place in this row."""
        added = _read_steps(steps)
        return Scroll(self._chains[0][0], steps=self._steps + added, said=self._said)

    def freed(self):
        """The Scroll without its confessions."""
        return Scroll(self._chains[0][0], steps=self._steps)

    def turned(self, at, stand):
        """The stand, carried through the companies that come ahead of the sign of that number."""
        chain = self._chains[at]
        for one, other in zip(chain, chain[1:]):
            stand = carried(one, other, stand)
        return stand

    def onward(self, at, stand):
        """The list of (name, stand at the next sign): each step by that sign which is let."""
        steps = self.company(at).steps(stand)
        return [
            (name, self.turned(at + 1, then)) for sign, name, then in steps
            if sign == self._signs[at] and self.lets(at, name)
        ]


def _read_steps(steps):
    """A copy of the steps, the rows of writers as tuples; BadStep."""
    for at, step in enumerate(steps):
        if not _is_step(step):
            raise BadStep(at)
    return [step if isinstance(step, str) else tuple(step) for step in steps]


def _is_step(step):
    if isinstance(step, str):
        return is_sign(step)
    try:
        Company(step)
    except (BadWriter, Taken, Full):
        return False
    return True


def _need_said(said, many):
    for place, (at, name, _) in enumerate(said):
        if not 0 <= at < many or not is_name(name):
            raise BadSaid(place)


def _chains(company, steps):
    """For each sign, and behind all: the company that was, and those that come ahead of the sign."""
    chains = [[company]]
    for step in steps:
        if isinstance(step, str):
            chains.append([chains[-1][-1]])
        else:
            chains[-1].append(Company(step))
    return chains
