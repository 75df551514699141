"""Sheets: what stands at a bench behind its deeds, and which deeds are refused there."""

from whoseink.companies import MOST_WRITERS, Company
from whoseink.errors import BadName, BadSign, BadWriter, Full, NoName, NoSaid, NoSign, NoWatch, Taken
from whoseink.scrolls import MOST_SIGNS, MOST_TURNS, Scroll
from whoseink.writers import is_name, is_sign, is_writer

_MOST_SAID = 24
_MOST_WATCHES = 6


class Sheet:
    """Signs and rows of writers as they came, the confessions that stand, the watches; it is never changed.

    `sayings` are tuples (number, at, name, so), `given` is how many numbers were told so far,
    `eyes` are the numbers of the signs that are watched.
    """

    def __init__(self, written=(), sayings=(), given=0, eyes=()):
        self.written = written
        self.sayings = sayings
        self.given = given
        self.eyes = eyes
        self.row = ((), *[step for step in written if not isinstance(step, str)])[-1]

    def many_signs(self):
        """How many signs there are."""
        return len([step for step in self.written if isinstance(step, str)])

    def many_turns(self):
        """How many company steps there are."""
        return len(self.written) - self.many_signs()

    def bearer(self, name):
        """The place of the writer of that name; NoName."""
        names = [writer[0] for writer in self.row]
        if name not in names:
            raise NoName(name)
        return names.index(name)

    def saying(self, number):
        """The confession of that number; NoSaid."""
        found = [each for each in self.sayings if each[0] == number]
        if not found:
            raise NoSaid(number)
        return found[0]

    def need_sign(self, at):
        """NoSign, where there is no sign of that number."""
        if not 0 <= at < self.many_signs():
            raise NoSign(at)

    def with_step(self, step):
        """The Sheet with a sign or a row of writers more."""
        return Sheet((*self.written, step), self.sayings, self.given, self.eyes)

    def with_row(self, row):
        """The Sheet with a company step more; Full."""
        if self.many_turns() >= MOST_TURNS:
            raise Full("no more company steps")
        return self.with_step(row)

    def with_sayings(self, sayings, given):
        """The Sheet with these confessions instead."""
        return Sheet(self.written, sayings, given, self.eyes)

    def with_eyes(self, eyes):
        """The Sheet with these watches instead."""
        return Sheet(self.written, self.sayings, self.given, tuple(sorted(eyes)))

    def made_scroll(self):
        """The Scroll of it, of no writers at first."""
        return Scroll(Company(), steps=self.written, said=[(at, name, so) for _, at, name, so in self.sayings])


def sheet_behind(sheet, deed):
    """The Sheet behind a deed. All refusals of the deed, but that no telling is left."""
    action = _ACTIONS[deed[0]]
    things = deed[1:]
    return action(sheet, *things)


def lots_left(sheet, deed):
    """How many of the forth lots hold on behind a deed that isn't refused, the first ones."""
    word = deed[0]
    if word in ("said", "denied"):
        return deed[1] + 1
    if word == "unsay":
        return sheet.saying(deed[1])[1] + 1
    # Whoever comes or goes, the stands behind all signs are carried.
    return sheet.many_signs() + (0 if word in ("come", "leave", "change") else 1)


def _come(sheet, writer):
    _need_writer(writer)
    if writer[0] in [each[0] for each in sheet.row]:
        raise Taken(writer[0])
    if len(sheet.row) >= MOST_WRITERS:
        raise Full("no more writers")
    return sheet.with_row((*sheet.row, writer))


def _leave(sheet, name):
    at = sheet.bearer(name)
    return sheet.with_row((*sheet.row[:at], *sheet.row[at + 1:]))


def _change(sheet, writer):
    _need_writer(writer)
    at = sheet.bearer(writer[0])
    return sheet.with_row((*sheet.row[:at], writer, *sheet.row[at + 1:]))


def _sign(sheet, sign):
    if not is_sign(sign):
        raise BadSign("no sign")
    if sheet.many_signs() >= MOST_SIGNS:
        raise Full("no more signs")
    return sheet.with_step(sign)


def _said(sheet, at, name):
    return _confessed(sheet, at, name, True)


def _denied(sheet, at, name):
    return _confessed(sheet, at, name, False)


def _unsay(sheet, number):
    gone = sheet.saying(number)
    return sheet.with_sayings(tuple([each for each in sheet.sayings if each != gone]), sheet.given)


def _watch(sheet, at):
    sheet.need_sign(at)
    if at in sheet.eyes:
        raise Taken(at)
    if len(sheet.eyes) >= _MOST_WATCHES:
        raise Full("no more watches")
    return sheet.with_eyes((*sheet.eyes, at))


def _unwatch(sheet, at):
    if at not in sheet.eyes:
        raise NoWatch(at)
    return sheet.with_eyes([each for each in sheet.eyes if each != at])


_ACTIONS = {
    "come": _come,
    "leave": _leave,
    "change": _change,
    "sign": _sign,
    "said": _said,
    "denied": _denied,
    "unsay": _unsay,
    "watch": _watch,
    "unwatch": _unwatch,
}


def _need_writer(writer):
    if not is_writer(writer):
        raise BadWriter(0)


def _confessed(sheet, at, name, so):
    sheet.need_sign(at)
    if not is_name(name):
        raise BadName("no name")
    if len(sheet.sayings) >= _MOST_SAID:
        raise Full("no more confessions")
    return sheet.with_sayings((*sheet.sayings, (sheet.given, at, name, so)), sheet.given + 1)
