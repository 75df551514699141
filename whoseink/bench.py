"""The bench, at which signs, confessions and writers come and go."""

from whoseink.deeds import deed_text, need_deed
from whoseink.errors import BadNumber, Broken, Clash, InkError, Missing, NothingLeft, NoWatch, Unwritten
from whoseink.sheets import Sheet, lots_left, sheet_behind
from whoseink.tellings import count_of, names_of, need_sign


class Entry:
    """A deed that stands, the Sheet behind it, what the watches tell there, and its notes."""

    def __init__(self, deed, sheet, seen, news):
        self.deed = deed
        self.sheet = sheet
        self.seen = seen
        self.news = news


class Bench:
    """Deeds one behind the other, and the forth lots as far as they are kept."""

    def __init__(self):
        self._entries = []
        self._gone = []
        self._sheet = Sheet()
        self._scroll = self._sheet.made_scroll()
        self._kept = []
        self._made = 0

    def __eq__(self, other):
        return isinstance(other, Bench) and self.deeds() == other.deeds()

    def __len__(self):
        return len(self._scroll)

    def __repr__(self):
        return f"Bench({len(self._sheet.row)} writers, {len(self._scroll)} signs, {len(self._entries)} deeds)"

    def __str__(self):
        return "".join([f"{deed_text(entry.deed)}\n" for entry in self._entries])

    def do(self, deed):
        """Does the deed; the number of a confession, or None. BadDeed, then the deed's refusals."""
        need_deed(deed)
        sheet = sheet_behind(self._sheet, deed)
        scroll = sheet.made_scroll()
        left = self._kept[:lots_left(self._sheet, deed)]
        lots = left
        if sheet.eyes or deed[0] in ("sign", "said", "denied"):
            lots = scroll.forth_from(left)
            _need_telling(deed, scroll, lots)
        # Nothing is refused from here on.
        seen = _seen(sheet, scroll, lots)
        self._entries.append(Entry(deed, sheet, seen, self._news(seen)))
        self._gone = []
        self._sheet = sheet
        self._scroll = scroll
        self._kept = lots
        self._made += len(lots) - len(left)
        return sheet.given - 1 if deed[0] in ("said", "denied") else None

    def batch(self, deeds):
        """Does the deeds, or none of them; the list of what they told. Broken, from the refusal."""
        trial = self.twin()
        told = []
        for at, deed in enumerate(deeds):
            try:
                told.append(trial.do(deed))
            except (InkError, Missing) as why:
                raise Broken(at) from why
        self._take(trial)
        return told

    def come(self, name, *, arrows=(), patience=0, cap=0):
        """A writer joins, as the last one."""
        return self.do(("come", (name, tuple(arrows), patience, cap)))

    def sign(self, sign):
        """The next sign is written."""
        return self.do(("sign", sign))

    def said(self, at, name, *, so=True):
        """A confession, or a denial; its number."""
        return self.do(("said" if so else "denied", at, name))

    def undo(self):
        """Takes the last deed back, and tells it; NothingLeft."""
        if not self._entries:
            raise NothingLeft("nothing to be taken back")
        entry = self._entries.pop()
        self._gone.append(entry)
        self._turn()
        return entry.deed

    def redo(self):
        """Does again what was taken back last, and tells it; NothingLeft."""
        if not self._gone:
            raise NothingLeft("nothing to be done again")
        entry = self._gone.pop()
        self._entries.append(entry)
        self._turn()
        return entry.deed

    def deeds(self):
        """The list of the deeds that stand."""
        return [entry.deed for entry in self._entries]

    def undone(self):
        """The list of the deeds that could be done again, the next one first."""
        return [entry.deed for entry in reversed(self._gone)]

    def known(self, count):
        """A Bench of the first so many deeds alone; BadNumber."""
        if not 0 <= count <= len(self._entries):
            raise BadNumber(f"not {count} deeds")
        elder = Bench()
        elder._entries = self._entries[:count]
        elder._turn()
        return elder

    def twin(self):
        """A Bench that has all that this one has."""
        other = Bench()
        other._take(self)
        return other

    def scroll(self):
        """The Scroll, of no writers at first."""
        return self._scroll

    def company(self):
        """The Company now."""
        return self._scroll.company(len(self._scroll))

    def confessions(self):
        """The list of (number, at, name, so) that stand, rising by number."""
        return list(self._sheet.sayings)

    def may(self, at):
        """The rising list of the names that may have written the sign; NoSign. It makes lots."""
        need_sign(self._scroll, at)
        self._make()
        return names_of(self._scroll, self._scroll.live_of(self._kept), at)

    def many(self):
        """The number of tellings. It makes lots."""
        self._make()
        return count_of(self._scroll, self._scroll.live_of(self._kept))

    def lots(self):
        """The forth lots. It makes them."""
        self._make()
        return [list(lot) for lot in self._kept]

    def watches(self):
        """The rising list of the numbers of the signs that are watched."""
        return list(self._sheet.eyes)

    def watched(self, at):
        """The list of the names that may have written the watched sign; NoWatch."""
        if at not in self._sheet.eyes:
            raise NoWatch(at)
        return list(self._entries[-1].seen[at])

    def notes(self):
        """The list of the notes (deeds, at, before, now)."""
        return [note for entry in self._entries for note in entry.news]

    def kept(self):
        """How many forth lots are kept."""
        return len(self._kept)

    def made(self):
        """How many forth lots were made at all."""
        return self._made

    def _news(self, seen):
        """The notes of the next deed, behind which the watches tell these names."""
        before = self._entries[-1].seen if self._entries else {}
        many = len(self._entries) + 1
        return [
            (many, at, before[at], seen[at]) for at in sorted(seen)
            if at in before and before[at] != seen[at]
        ]

    def _make(self):
        """Makes the forth lots that lack."""
        lots = self._scroll.forth_from(self._kept)
        self._made += len(lots) - len(self._kept)
        self._kept = lots

    def _turn(self):
        """Takes up what stands behind the last deed, with no lots."""
        self._sheet = self._entries[-1].sheet if self._entries else Sheet()
        self._scroll = self._sheet.made_scroll()
        self._kept = []

    def _take(self, other):
        """Takes up all that the other Bench has."""
        self._entries = list(other._entries)
        self._gone = list(other._gone)
        self._sheet = other._sheet
        self._scroll = other._scroll
        self._kept = list(other._kept)
        self._made = other._made


def _need_telling(deed, scroll, lots):
    """Unwritten or Clash, where no telling would be left behind the deed."""
    if lots[-1]:
        return
    if deed[0] == "sign":
        raise Unwritten(len(scroll) - 1)
    raise Clash("no telling would be left")


def _seen(sheet, scroll, lots):
    """Of each watched sign the tuple of the names that may have written it."""
    if not sheet.eyes:
        return {}
    live = scroll.live_of(lots)
    return {at: tuple(names_of(scroll, live, at)) for at in sheet.eyes}
