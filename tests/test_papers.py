"""Papers: the bar, which shows that a name can't have written a sign."""

import unittest

from by_hand import all_names, chances, company_row, some_scroll, tellings_by_hand

from whoseink.companies import Company
from whoseink.errors import NoSign
from whoseink.papers import bar, is_bar
from whoseink.scrolls import Scroll
from whoseink.tellings import may
from whoseink.writers import read_writer

ANN = read_writer("ann/0a1;1b0/2/0")
BOB = read_writer("bob/0a0/0/1")
CY = read_writer("cy/0a0;0b0/0/0")
TWO = Company([ANN, BOB])
THIRTY = 10 ** 30 - 1
# The stands of ann and bob: at the beginning, behind her a, behind his a, behind both.
BEGIN, ANNS, BOBS, BOTH = (
    ((0, 0), (0, 0), (-1, 0)), ((1, 0), (0, 0), (-1, 0)), ((0, 0), (1, 0), (1, 1)), ((1, 0), (1, 0), (1, 1)),
)
ODD_LOTS = (
    None, 0, "", "odd", [], [[]], [None], [[None]] * 3, ["odd"], [[["odd"]]] * 2, {}, [[((), (), ())]] * 9,
)


def copied(lots):
    return [list(lot) for lot in lots]


class Checks(unittest.TestCase):

    def shows(self, made, at, name, papers, expected=True):
        forth, live = papers
        kept = (copied(forth), copied(live))
        self.assertIs(is_bar(made, at, name, forth, live), expected)
        self.assertEqual((forth, live), kept)


class Barring(Checks):

    def test_by_hand(self):
        made = Scroll(TWO, steps=["a", "b"])
        self.assertIsNone(bar(made, 0, "ann"))
        self.assertEqual(bar(made, 0, "bob"), ([[BEGIN], [BOBS, ANNS], [BEGIN]], [[BEGIN], [ANNS], [BEGIN]]))
        self.assertIsNone(bar(scroll=made, at=1, name="ann"))
        self.assertIsInstance(bar(made, 1, "bob"), tuple)
        self.shows(made, 0, "bob", bar(made, 0, "bob"))
        self.shows(made, 1, "bob", bar(made, 1, "bob"))

    def test_strangers_are_barred(self):
        for steps, said in (
            (["a", "b"], []), (["a", "z"], []), (["a"], [(0, "cy", True)]), (["a"], [(0, "cy", False)]),
        ):
            made = Scroll(TWO, steps=steps, said=said)
            for at in range(len(made)):
                for name in ("cy", "nobody", "", "Ann", "two words"):
                    self.shows(made, at, name, bar(made, at, name))

    def test_no_telling_at_all(self):
        for steps, said in ((["a", "b", "b"], []), (["a", "a"], [(1, "nobody", True)])):
            made = Scroll(TWO, steps=steps, said=said)
            for at in range(len(made)):
                for name in ("ann", "bob", "nobody"):
                    papers = bar(made, at, name)
                    self.assertEqual(papers[1], [[] for _ in range(len(made) + 1)])
                    self.shows(made, at, name, papers)

    def test_no_sign(self):
        for steps in ([], [[CY]], ["a", [CY], "b", [ANN]]):
            made = Scroll(TWO, steps=steps)
            for at in (-1, -2, len(made), len(made) + 1, THIRTY, -THIRTY):
                for name in ("ann", "nobody"):
                    with self.assertRaises(NoSign) as caught:
                        bar(made, at, name)
                    self.assertEqual(caught.exception.at, at)
                for lots in ODD_LOTS:
                    with self.assertRaises(NoSign) as caught:
                        is_bar(made, at, "ann", lots, lots)
                    self.assertEqual((type(caught.exception), caught.exception.at), (NoSign, at))

    def test_told_lots_are_new_ones(self):
        made = Scroll(TWO, steps=["a", "b"])
        first = bar(made, 0, "bob")
        for lots in first:
            for lot in lots:
                lot.append("odd")
            lots.clear()
        self.assertEqual(bar(made, 0, "bob"), ([[BEGIN], [BOBS, ANNS], [BEGIN]], [[BEGIN], [ANNS], [BEGIN]]))

    def test_against_all_tellings(self):
        barred = 0
        for chance in chances(250):
            row, steps, said = some_scroll(chance)
            made = Scroll(Company(row), steps=steps, said=said)
            tellings = tellings_by_hand(row, steps, said)
            with self.subTest(row=row, steps=steps, said=said):
                for at in range(len(made)):
                    for name in all_names(row, steps):
                        papers = bar(made, at, name)
                        self.assertEqual(papers is None, name in [names[at] for names in tellings])
                        self.assertEqual(bar(made, at, name), papers)
                        # What shows nothing of one who may have written the sign: the lots as they are.
                        self.shows(made, at, name, papers or (made.forth(), made.live()), papers is not None)
                        barred += papers is not None
        self.assertGreater(barred, 500)


class Turned(Checks):
    """Told bars, and such that were changed."""

    def scrolls(self, many):
        """Scrolls with companies between signs and behind the last one, with a name that is barred."""
        for chance in chances(many):
            row, steps, said = some_scroll(chance)
            made = Scroll(Company(row), steps=steps, said=said)
            for at in range(len(made)):
                for name in all_names(row, steps):
                    if name not in may(made, at):
                        yield made, at, name

    def test_a_stand_out(self):
        changed = 0
        for made, at, name in self.scrolls(60):
            for row in (0, 1):
                for lot in range(len(made) + 1):
                    for stand in range(len(bar(made, at, name)[row][lot])):
                        papers = bar(made, at, name)
                        del papers[row][lot][stand]
                        self.shows(made, at, name, papers, False)
                        changed += 1
        self.assertGreater(changed, 500)

    def test_a_stand_twice_and_lots_turned_about(self):
        for made, at, name in self.scrolls(60):
            twice, about = bar(made, at, name), bar(made, at, name)
            for row in (0, 1):
                for lot in range(len(made) + 1):
                    twice[row][lot] += twice[row][lot][:2]
                    about[row][lot].reverse()
            self.shows(made, at, name, twice)
            self.shows(made, at, name, about)

    def test_another_count_of_lots(self):
        for made, at, name in self.scrolls(40):
            for row in (0, 1):
                for more in ([], [made.company(len(made)).begin()]):
                    papers = bar(made, at, name)
                    papers[row].append(more)
                    self.assertIs(is_bar(made, at, name, *papers), False)
                papers = bar(made, at, name)
                papers[row].insert(0, list(papers[row][0]))
                self.assertIs(is_bar(made, at, name, *papers), False)
                for lot in range(len(made) + 1):
                    papers = bar(made, at, name)
                    del papers[row][lot]
                    self.assertIs(is_bar(made, at, name, *papers), False)
            forth, live = bar(made, at, name)
            for lots in ODD_LOTS:
                if isinstance(lots, list) and len(lots) != len(made) + 1:
                    self.assertIs(is_bar(made, at, name, lots, live), False)
                    self.assertIs(is_bar(made, at, name, forth, lots), False)
                    self.assertIs(is_bar(made, at, name, lots, lots), False)

    def test_lots_exchanged(self):
        made = Scroll(TWO, steps=["a", "b"])
        forth, live = bar(made, 0, "bob")
        self.shows(made, 0, "bob", (live, forth), False)
        self.shows(made, 0, "bob", (forth, forth), False)
        self.shows(made, 0, "bob", (live, live), False)
        self.shows(made, 0, "bob", (forth[1:] + forth[:1], live[1:] + live[:1]), False)

    def test_empty_lots(self):
        made = Scroll(TWO, steps=["a", "b"])
        forth, live = bar(made, 0, "bob")
        none = [[], [], []]
        self.shows(made, 0, "bob", (none, none), False)
        self.shows(made, 0, "bob", (none, live), False)
        self.shows(made, 0, "bob", (forth, none), False)
        self.shows(made, 0, "bob", ([[BEGIN], [], []], none), False)

    def test_forth_lots_with_more_than_they_must_have(self):
        made = Scroll(TWO, steps=["a", "b"])
        live = [[BEGIN], [ANNS], [BEGIN]]
        # Behind both her a and his, ann's b leads on to the beginning, which is live.
        self.shows(made, 0, "bob", ([[BEGIN], [BOBS, ANNS, BOTH], [BEGIN]], live), False)
        self.shows(made, 0, "bob", ([[BEGIN], [BOTH, BOBS, ANNS], [BEGIN]], [[BEGIN], [ANNS, BOTH], [BEGIN]]))
        self.shows(made, 0, "bob", ([[BEGIN], [BOBS, ANNS], [BEGIN, BOTH]], live), False)
        self.shows(made, 0, "bob", ([[BEGIN], [BOBS, ANNS], [BEGIN, BOTH]], [[BEGIN], [ANNS], [BOTH, BEGIN]]))
        # Behind her a, bob could write his, and come to both.
        self.shows(made, 0, "bob", ([[ANNS, BEGIN], [BOBS, ANNS], [BEGIN]], live), False)
        wide = ([[ANNS, BEGIN], [BOBS, BOTH, ANNS], [BEGIN]], [[ANNS, BEGIN], [ANNS, BOTH], [BEGIN]])
        self.shows(made, 0, "bob", wide, False)
        self.shows(made, 0, "cy", wide)
        self.shows(made, 0, "cy", (wide[0], [[BEGIN], [ANNS, BOTH], [BEGIN]]), False)
        self.shows(made, 1, "bob", wide)

    def test_live_lots_with_more_than_they_must_have(self):
        made = Scroll(TWO, steps=["a", "b"])
        forth = [[BEGIN], [BOBS, ANNS], [BEGIN]]
        self.shows(made, 0, "bob", (forth, [[BOTH, BEGIN], [BOTH, ANNS], [ANNS, BEGIN, BOTH]]))
        self.shows(made, 0, "bob", (forth, [[BEGIN], [ANNS, BOBS], [BEGIN]]), False)
        self.shows(made, 1, "bob", (forth, [[BEGIN], [ANNS, BOBS], [BEGIN]]))
        self.shows(made, 1, "cy", (forth, [[BEGIN], [ANNS, BOBS], [BEGIN]]))
        self.shows(made, 0, "ann", (forth, [[BEGIN], [BOBS], [BEGIN]]), False)

    def test_one_who_may_is_never_barred(self):
        made = Scroll(TWO, steps=["a", "a"])
        for live in ([[BEGIN], [ANNS], [BOTH]], [[], [], []], [[BEGIN], [BOBS, ANNS], []]):
            for at in (0, 1):
                for name in ("ann", "bob"):
                    self.shows(made, at, name, (made.forth(), live), False)

    def test_confessions(self):
        steps, free = ["a", "a"], Scroll(TWO, steps=["a", "a"])
        for said in ([(0, "ann", True)], [(0, "bob", False)], [(1, "bob", True)], [(1, "ann", False)]):
            made = Scroll(TWO, steps=steps, said=said)
            for at, name in ((0, "bob"), (1, "ann")):
                self.shows(made, at, name, bar(made, at, name))
                self.shows(free, at, name, bar(made, at, name), False)
            # Lots of a scroll without a confession have more than they must, and show less.
            self.shows(made, 1, "ann", (free.forth(), free.live()), made.lets(1, "ann") is False)

    def test_companies_between_signs_and_behind_the_last(self):
        none, one = ((), (), (-1, 0)), ((0,), (0,), (-1, 0))
        made = Scroll(TWO, steps=[[BOB], [CY], "a", [ANN], "a", []])
        self.assertEqual(bar(made, 0, "ann"), ([[one], [one], [none]], [[one], [one], [none]]))
        self.shows(made, 0, "ann", ([[one], [one], [none]], [[one], [one], [none]]))
        self.shows(made, 1, "cy", ([[one], [one], [none]], [[one], [one], [none]]))
        self.shows(made, 0, "cy", ([[one], [one], [none]], [[one], [one], [none]]), False)
        # The last lot lacks the stand at which nobody is there any more.
        self.shows(made, 0, "ann", ([[one], [one], []], [[one], [one], []]), False)

    def test_a_scroll_of_one_sign(self):
        made = Scroll(TWO, steps=["b"])
        self.assertEqual(bar(made, 0, "ann"), ([[BEGIN], []], [[], []]))
        self.shows(made, 0, "ann", ([[BEGIN], []], [[], []]))
        self.shows(made, 0, "ann", ([[BEGIN], []], [[BEGIN], []]))
        self.shows(made, 0, "ann", ([[BEGIN], [BEGIN]], [[], []]), False)
        self.shows(made, 0, "ann", ([[], []], [[], []]), False)

    def test_rows_as_tuples(self):
        made = Scroll(Company(company_row("ann/0a1;1b0/2/0 bob/0a0/0/1")), steps=("a", "b"))
        forth, live = bar(made, 0, "bob")
        self.assertIs(is_bar(made, 0, "bob", tuple(forth), tuple(live)), True)
        self.assertIs(is_bar(live=live, forth=forth, name="bob", at=0, scroll=made), True)


if __name__ == "__main__":
    unittest.main()
