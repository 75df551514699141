"""What the document says of the bench, kept by going through all rows of names, to check against.

Each deed is gone through anew from the first one on; nothing is kept but the deeds, those that
were taken back, the numbers of the lots that are kept, and how many were made.
"""

from by_hand import all_names, keeps, stands_of_row, tellings_by_hand

from whoseink.bench import Bench
from whoseink.deeds import deed_text
from whoseink.writers import is_writer, read_writer

ANN = read_writer("ann/0a1;1b0/2/0")
BOB = read_writer("bob/0a0/0/1")
CY = read_writer("cy/0a0;0b0/0/0")
DI = read_writer("di/0a0/0/0")
EVE = read_writer("eve/0a0;0b0/0/0")
# Deeds of each kind, one behind the other.
DEEDS = (
    ("come", CY), ("come", EVE), ("sign", "a"), ("watch", 0), ("sign", "b"), ("said", 0, "cy"), ("denied", 1, "cy"), ("unsay", 0),
    ("change", ("cy", CY[1], 1, 1)), ("come", ANN), ("leave", "eve"), ("sign", "a"), ("watch", 2), ("unwatch", 0),
    ("said", 2, "ann"), ("unsay", 1), ("leave", "ann"),
)
LONG = {"come": 2, "leave": 2, "change": 2, "sign": 2, "said": 3, "denied": 3, "unsay": 2, "watch": 2, "unwatch": 2}


def bench_of(*deeds):
    """A bench at which these were done."""
    bench = Bench()
    for deed in deeds:
        bench.do(deed)
    return bench


def state(bench):
    """All that can be asked of a bench without making lots."""
    return (
        bench.deeds(), bench.undone(), bench.confessions(), bench.company(), bench.scroll().signs(),
        bench.scroll().said(), bench.watches(), [bench.watched(at) for at in bench.watches()], bench.notes(),
        bench.kept(), bench.made(), len(bench), repr(bench), str(bench),
    )


def is_letters(text, most):
    return 1 <= len(text) <= most and all("a" <= letter <= "z" for letter in text)


class Table:
    """What stands behind some deeds."""

    def __init__(self, deeds):
        self.steps, self.row, self.said, self.numbers, self.watches = [], [], {}, 0, []
        for deed in deeds:
            self._done(deed)

    def _done(self, deed):
        word, first = deed[:2]
        if word == "sign":
            self.steps.append(first)
        elif word in ("said", "denied"):
            self.said[self.numbers] = (first, deed[2], word == "said")
            self.numbers += 1
        elif word == "unsay":
            del self.said[first]
        elif word == "watch":
            self.watches.append(first)
        elif word == "unwatch":
            self.watches.remove(first)
        else:
            if word == "come":
                self.row = self.row + [first]
            elif word == "leave":
                self.row = [writer for writer in self.row if writer[0] != first]
            else:
                self.row = [first if writer[0] == first[0] else writer for writer in self.row]
            self.steps.append(self.row)

    def signs(self):
        return [step for step in self.steps if isinstance(step, str)]

    def turns(self):
        return [step for step in self.steps if not isinstance(step, str)]

    def confessions(self):
        return [self.said[number] for number in sorted(self.said)]

    def tellings(self):
        return tellings_by_hand([], self.steps, self.confessions())

    def may(self, at):
        return sorted({names[at] for names in self.tellings()})

    def lots(self):
        """The forth lots, by the rows of names of each length that keep the confessions."""
        rows, lots = [()], []
        for many in range(len(self.signs()) + 1):
            lots.append(sorted({stands_of_row([], self.steps, names)[many] for names in rows}))
            longer = [(*names, name) for names in rows for name in all_names([], self.steps)]
            rows = [
                names for names in longer
                if keeps(self.confessions(), names) and stands_of_row([], self.steps, names) is not None
            ] if many < len(self.signs()) else []
        return lots


def refusal(deeds, deed):
    """The word and the field of the first refusal of the deed, or None."""
    if not deed or LONG.get(deed[0]) != len(deed):
        return ("BadDeed", None)
    table, word, first = Table(deeds), deed[0], deed[1]
    names = [writer[0] for writer in table.row]
    many = len(table.signs())
    due = []
    if word in ("come", "change"):
        if not is_writer(first):
            return ("BadWriter", 0)
        if word == "come":
            due += [("Taken", first[0])] if first[0] in names else []
            due += [("Full", None)] if len(names) == 3 else []
        else:
            due += [("NoName", first[0])] if first[0] not in names else []
    if word == "leave":
        due += [("NoName", first)] if first not in names else []
    if word in ("come", "leave", "change"):
        due += [("Full", None)] if len(table.turns()) == 12 else []
    if word == "sign":
        due += [("BadSign", None)] if not is_letters(first, 1) else []
        due += [("Full", None)] if many == 24 else []
        if not due and not Table([*deeds, deed]).tellings():
            due += [("Unwritten", many)]
    if word in ("said", "denied"):
        due += [("NoSign", first)] if not 0 <= first < many else []
        due += [("BadName", None)] if not is_letters(deed[2], 6) else []
        due += [("Full", None)] if len(table.said) == 24 else []
        if not due and not Table([*deeds, deed]).tellings():
            due += [("Clash", None)]
    if word == "unsay":
        due += [("NoSaid", first)] if first not in table.said else []
    if word == "watch":
        due += [("NoSign", first)] if not 0 <= first < many else []
        due += [("Taken", first)] if first in table.watches else []
        due += [("Full", None)] if len(table.watches) == 6 else []
    if word == "unwatch":
        due += [("NoWatch", first)] if first not in table.watches else []
    return due[0] if due else None


class Hand:
    """A bench by hand."""

    def __init__(self):
        self.deeds, self.gone, self.kept, self.made = [], [], set(), 0

    def do(self, deed):
        """What the deed tells; it is not refused."""
        struck = Table(self.deeds).said[deed[1]][0] if deed[0] == "unsay" else None
        self.deeds, self.gone = [*self.deeds, deed], []
        table = Table(self.deeds)
        many = len(table.signs())
        if deed[0] in ("said", "denied"):
            self.kept -= set(range(deed[1] + 1, many + 1))
        elif deed[0] == "unsay":
            self.kept -= set(range(struck + 1, many + 1))
        elif deed[0] in ("come", "leave", "change"):
            self.kept -= {many}
        if table.watches or deed[0] in ("sign", "said", "denied"):
            self.make()
        return table.numbers - 1 if deed[0] in ("said", "denied") else None

    def make(self):
        every = set(range(len(Table(self.deeds).signs()) + 1))
        self.made += len(every - self.kept)
        self.kept = every

    def undo(self):
        self.kept = set()
        self.gone.append(self.deeds[-1])
        self.deeds = self.deeds[:-1]
        return self.gone[-1]

    def redo(self):
        self.kept = set()
        self.deeds = [*self.deeds, self.gone.pop()]
        return self.deeds[-1]

    def notes(self):
        found = []
        for many in range(1, len(self.deeds) + 1):
            ahead, behind = Table(self.deeds[:many - 1]), Table(self.deeds[:many])
            for at in sorted(set(ahead.watches) & set(behind.watches)):
                if ahead.may(at) != behind.may(at):
                    found.append((many, at, tuple(ahead.may(at)), tuple(behind.may(at))))
        return found

    def page(self):
        return "".join(deed_text(deed) + "\n" for deed in self.deeds)
