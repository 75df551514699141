"""Scrolls: their steps, companies and confessions, and their lots, forth and live."""

import unittest

from by_hand import chances, company_row, forth_and_live, some_scroll

from whoseink.companies import Company
from whoseink.errors import BadSaid, BadStep, NoSign
from whoseink.scrolls import MOST_SIGNS, MOST_TURNS, Scroll
from whoseink.writers import read_writer

ANN = read_writer("ann/0a1;1b0/2/0")
BOB = read_writer("bob/0a0/0/1")
CY = read_writer("cy/0a0;0b0/0/0")
DI = read_writer("di/-/0/0")
NONE = ("bob", (), 0, 4)
TWO = Company([ANN, BOB])
ODD_STEPS = (
    "", "A", "ab", "1", " ", "a\n", [NONE], (NONE,), [ANN, NONE], [ANN, ANN], [ANN, ("ann", (), 0, 0)],
    [ANN, BOB, CY, DI], [()], ((),), [ANN + (0,)],
)


class Making(unittest.TestCase):

    def refusal(self, kind, steps, said=()):
        with self.assertRaises(kind) as caught:
            Scroll(TWO, steps=steps, said=said)
        self.assertIs(type(caught.exception), kind)
        return caught.exception

    def test_bounds(self):
        self.assertEqual((MOST_SIGNS, MOST_TURNS), (24, 12))

    def test_without_steps(self):
        for made in (Scroll(TWO), Scroll(company=TWO, said=[], steps=[]), Scroll(TWO, steps=(), said=())):
            self.assertEqual((made.signs(), made.said(), len(made), bool(made)), ([], [], 0, False))
            self.assertEqual((made.company(0), made.forth()), (TWO, [[TWO.begin()]]))
            self.assertEqual(made.live(), [[TWO.begin()]])

    def test_lists_and_tuples(self):
        steps = ["a", [ANN], "b", (), "a", (BOB, CY)]
        said = [(0, "ann", True), (2, "bob", False), (2, "zoe", False), (0, "ann", True)]
        for made in (
            Scroll(TWO, steps=steps, said=said), Scroll(said=tuple(said), steps=tuple(steps), company=TWO),
        ):
            self.assertEqual((made.signs(), made.said(), len(made)), (["a", "b", "a"], said, 3))

    def test_bad_step_tells_the_first(self):
        for odd in ODD_STEPS:
            for ahead in ([], ["a"], ["a", [ANN], "b"]):
                with self.subTest(odd=odd, ahead=ahead):
                    self.assertEqual(self.refusal(BadStep, ahead + [odd]).at, len(ahead))
                    self.assertEqual(self.refusal(BadStep, tuple(ahead + [odd, "a", "AA"])).at, len(ahead))

    def test_bad_said_tells_the_first(self):
        fine = (1, "ann", True)
        for odd in (
            (2, "ann", True), (-1, "ann", True), (10 ** 29, "ann", False), (-10 ** 29, "ann", True), (0, "", True),
            (0, "Ann", False), (1, "abcdefg", False), (0, "a b", True), (2, "", True),
        ):
            for so in (True, False):
                with self.subTest(odd=odd, so=so):
                    bad = (odd[0], odd[1], so)
                    self.assertEqual(self.refusal(BadSaid, ["a", [ANN], "b"], [bad]).at, 0)
                    self.assertEqual(self.refusal(BadSaid, ["a", [ANN], "b"], (fine, fine, bad, bad)).at, 2)
        self.assertEqual(self.refusal(BadSaid, [], [(0, "ann", False)]).at, 0)
        self.assertEqual(self.refusal(BadSaid, [[ANN]], [(0, "ann", True)]).at, 0)

    def test_steps_are_refused_ahead_of_confessions(self):
        self.assertEqual(self.refusal(BadStep, ["a", "A"], [(5, "ann", True)]).at, 1)
        self.assertEqual(self.refusal(BadStep, ["a", "b", [NONE]], [(0, "", True)]).at, 2)

    def test_as_much_as_may_be(self):
        steps = [step for at in range(24) for step in (["a"], [[CY], "a"])[at % 2]]
        said = [(at, "cy", True) for at in range(24)]
        made = Scroll(Company([CY]), steps=steps, said=said)
        self.assertEqual((len(made), len(steps), len(made.said()), len(made.live())), (24, 36, 24, 25))
        self.assertEqual(made.live()[24], [((0,), (0,), (-1, 0))])

    def test_what_is_handed_in_is_neither_changed_nor_kept(self):
        row, steps, said = [ANN, BOB], ["a", [CY], "b"], [(0, "ann", True)]
        made = Scroll(Company(row), steps=steps, said=said)
        self.assertEqual((row, steps, said), ([ANN, BOB], ["a", [CY], "b"], [(0, "ann", True)]))
        live = made.live()
        row.clear()
        steps[1].append(ANN)
        steps.append("a")
        said.append((9, "", True))
        self.assertEqual((made.signs(), made.said()), (["a", "b"], [(0, "ann", True)]))
        self.assertEqual((made.company(1), made.live()), (Company([CY]), live))
        self.assertEqual(made.more(["a"]).company(2), Company([CY]))

    def test_told_lists_are_new_ones(self):
        made = Scroll(TWO, steps=["a", "a"], said=[(0, "bob", False)])
        for ask in (made.signs, made.said):
            first = ask()
            kept = list(first)
            first.append("odd")
            first.reverse()
            self.assertEqual(ask(), kept)
        for ask in (made.forth, made.live):
            kept = [list(lot) for lot in ask()]
            told = ask()
            for lot in told:
                lot.append("odd")
                lot.reverse()
            self.assertEqual(ask(), kept)
            told.clear()
            self.assertEqual(ask(), kept)


class Companies(unittest.TestCase):

    def check(self, steps, rows):
        made = Scroll(TWO, steps=steps)
        self.assertEqual([made.company(at).writers() for at in range(len(made) + 1)], rows)
        for at in (-1, len(made) + 1, 10 ** 29, -10 ** 29):
            with self.assertRaises(NoSign) as caught:
                made.company(at)
            self.assertEqual(caught.exception.at, at)

    def test_none_more(self):
        self.check([], [[ANN, BOB]])
        self.check(["a", "b"], [[ANN, BOB]] * 3)

    def test_ahead_of_the_first_sign(self):
        self.check([[CY], "a"], [[CY], [CY]])

    def test_between_signs(self):
        self.check(["a", [CY], "b"], [[ANN, BOB], [CY], [CY]])
        self.check(["a", [CY], "b", "c", (), "d"], [[ANN, BOB], [CY], [CY], [], []])

    def test_several_at_one_sign(self):
        self.check(["a", [CY], (DI, CY), [], [BOB], "b"], [[ANN, BOB], [BOB], [BOB]])
        self.check([[CY], [DI], "a"], [[DI], [DI]])

    def test_behind_the_last_sign(self):
        self.check(["a", [CY]], [[ANN, BOB], [CY]])
        self.check(["a", [CY], [CY, DI]], [[ANN, BOB], [CY, DI]])
        self.check([[CY], [DI]], [[DI]])

    def test_it_is_a_company(self):
        made = Scroll(TWO, steps=["a", [CY]])
        self.assertIsInstance(made.company(at=1), Company)
        self.assertEqual((made.company(0), made.company(1)), (TWO, Company([CY])))


class Letting(unittest.TestCase):

    def test_none_said(self):
        made = Scroll(TWO, steps=["a", "b"])
        for name in ("ann", "bob", "nobody"):
            self.assertEqual([made.lets(0, name), made.lets(1, name)], [True, True])

    def test_one_and_several_confessions_of_a_sign(self):
        said = [
            (0, "ann", True), (1, "ann", False), (2, "ann", False), (2, "bob", False), (3, "ann", True),
            (3, "bob", True), (4, "zoe", False), (5, "zoe", True), (3, "cy", False), (6, "ann", True),
            (6, "ann", True), (6, "bob", False), (7, "ann", True), (7, "ann", False),
        ]
        made = Scroll(TWO, steps=list("abababab"), said=said)
        lets = {
            name: [made.lets(at, name) for at in range(8)] for name in ("ann", "bob", "cy", "zoe")
        }
        self.assertEqual(lets, {
            "ann": [True, False, False, False, True, False, True, False],
            "bob": [False, True, False, False, True, False, False, False],
            "cy": [False, True, True, False, True, False, False, False],
            "zoe": [False, True, True, False, False, True, False, False],
        })
        self.assertIs(made.lets(name="ann", at=0), True)

    def test_no_sign(self):
        for steps in ([], ["a", [CY], "b", [DI]]):
            made = Scroll(TWO, steps=steps)
            for at in (-1, -2, len(made), len(made) + 1, 10 ** 29, -10 ** 29):
                with self.assertRaises(NoSign) as caught:
                    made.lets(at, "ann")
                self.assertEqual((caught.exception.at, caught.exception.word), (at, "NoSign"))


class Lots(unittest.TestCase):

    def check(self, made, forth, live):
        self.assertEqual((made.forth(), made.live()), (forth, live))

    def test_by_hand(self):
        # Ann writes a, then b; bob writes a, never twice in a row.
        begin, ann, bob, both = (
            ((0, 0), (0, 0), (-1, 0)), ((1, 0), (0, 0), (-1, 0)), ((0, 0), (1, 0), (1, 1)), ((1, 0), (1, 0), (1, 1)),
        )
        self.check(Scroll(TWO, steps=["a"]), [[begin], [bob, ann]], [[begin], [bob, ann]])
        self.check(
            Scroll(TWO, steps=["a", "b"]), [[begin], [bob, ann], [begin]], [[begin], [ann], [begin]],
        )
        self.check(
            Scroll(TWO, steps=["a", "a"]), [[begin], [bob, ann], [ann, both]], [[begin], [bob, ann], [ann, both]],
        )
        self.check(
            Scroll(TWO, steps=["a", "a"], said=[(1, "ann", True)]),
            [[begin], [bob, ann], [ann]], [[begin], [bob], [ann]],
        )
        self.check(
            Scroll(TWO, steps=["a", "a"], said=[(0, "bob", False)]),
            [[begin], [ann], [both]], [[begin], [ann], [both]],
        )

    def test_no_telling_leaves_all_live_lots_empty(self):
        begin, ann, bob = ((0, 0), (0, 0), (-1, 0)), ((1, 0), (0, 0), (-1, 0)), ((0, 0), (1, 0), (1, 1))
        for second, said in (
            ([bob, ann], [(1, "ann", True), (1, "bob", True)]),
            ([bob, ann], [(1, "ann", True), (1, "ann", False)]),
            ([bob, ann], [(1, "ann", False), (1, "bob", False)]),
            ([bob, ann], [(1, "nobody", True)]),
            ([ann], [(0, "ann", True), (1, "ann", True)]),
            ([], [(0, "ann", True), (0, "bob", True)]),
        ):
            with self.subTest(said):
                self.check(Scroll(TWO, steps=["a", "a"], said=said), [[begin], second, []], [[], [], []])
        self.check(Scroll(TWO, steps=["z", "a"]), [[begin], [], []], [[], [], []])

    def test_names_that_nobody_bears(self):
        free = Scroll(TWO, steps=["a", "a"])
        denied = Scroll(TWO, steps=["a", "a"], said=[(0, "nobody", False), (1, "cy", False)])
        self.check(denied, free.forth(), free.live())
        # Cy comes behind the sign that he is said to have written.
        self.check(
            Scroll(TWO, steps=["a", [CY], "a"], said=[(0, "cy", True)]), [[TWO.begin()], [], []], [[], [], []],
        )

    def test_companies_ahead_of_the_first_sign_and_behind_the_last(self):
        one, none = ((0,), (0,), (-1, 0)), ((), (), (-1, 0))
        made = Scroll(TWO, steps=[[CY], "a", [], [ANN]])
        self.check(made, [[one], [one]], [[one], [one]])
        self.check(Scroll(TWO, steps=[[CY], "a", []]), [[one], [none]], [[one], [none]])
        self.check(Scroll(TWO, steps=[[CY]]), [[one]], [[one]])

    def test_kept_writers_keep_their_place_and_wait(self):
        begin = TWO.begin()
        made = Scroll(TWO, steps=["a", [BOB, ANN], "b"])
        self.check(
            made, [[begin], [((0, 0), (0, 1), (0, 1)), ((0, 1), (0, 0), (-1, 0))], [((0, 0), (0, 0), (-1, 0))]],
            [[begin], [((0, 1), (0, 0), (-1, 0))], [((0, 0), (0, 0), (-1, 0))]],
        )

    def test_one_who_leaves_and_comes_again_at_one_sign_begins_anew(self):
        begin = TWO.begin()
        anew = [((0, 0), (0, 0), (-1, 0)), ((0, 0), (0, 0), (1, 1))]
        made = Scroll(TWO, steps=["a", [BOB], [ANN, BOB], "b"])
        self.check(made, [[begin], anew, []], [[], [], []])
        self.assertEqual(Scroll(TWO, steps=["a", [ANN, BOB], "b"]).live()[2], [((0, 0), (0, 0), (-1, 0))])

    def test_against_all_rows_of_names(self):
        told = 0
        for chance in chances(250):
            row, steps, said = some_scroll(chance)
            made = Scroll(Company(row), steps=steps, said=said)
            forth, live = forth_and_live(row, steps, said)
            with self.subTest(row=row, steps=steps, said=said):
                self.check(made, forth, live)
            told += live[0] != []
        self.assertTrue(60 < told < 240, told)

    def test_lots_of_a_company_of_many_stands(self):
        row = company_row("x/0a1;1a2;2a0/3/3 y/0a1;1a2;2a0/3/3 z/0a1;1a2;2a0/3/3")
        made = Scroll(Company(row), steps=["a"] * 24)
        self.assertEqual([len(lot) for lot in made.forth()][:3], [1, 3, 9])
        self.assertEqual(made.forth()[24], made.live()[24])


class More(unittest.TestCase):

    def setUp(self):
        self.said = [(0, "ann", True), (1, "cy", False)]
        self.steps = ["a", [CY, ANN], "b"]
        self.first = Scroll(TWO, steps=self.steps, said=self.said)

    def same(self, one, other):
        companies = [[made.company(at) for at in range(len(made) + 1)] for made in (one, other)]
        self.assertEqual(companies[0], companies[1])
        self.assertEqual((one.signs(), one.said()), (other.signs(), other.said()))
        self.assertEqual((one.forth(), one.live()), (other.forth(), other.live()))

    def test_none(self):
        for steps in ([], ()):
            made = self.first.more(steps)
            self.assertIsNot(made, self.first)
            self.same(made, self.first)

    def test_some(self):
        for steps in (["a"], ("b", "a"), [[BOB]], [[], "a"], ["b", (CY, BOB), [BOB], "a", "a"]):
            with self.subTest(steps):
                kept = list(steps)
                made = self.first.more(steps=steps)
                self.assertIsInstance(made, Scroll)
                self.same(made, Scroll(TWO, steps=self.steps + kept, said=self.said))
                self.assertEqual(list(steps), kept)

    def test_more_and_more(self):
        made = Scroll(TWO)
        for step in self.steps:
            made = made.more([step])
        self.same(made, Scroll(TWO, steps=self.steps))

    def test_odd_steps(self):
        for odd in ODD_STEPS:
            for ahead in ([], ["a", [BOB]]):
                with self.subTest(odd=odd, ahead=ahead):
                    with self.assertRaises(BadStep) as caught:
                        self.first.more(ahead + [odd, "AA"])
                    self.assertEqual(caught.exception.at, len(ahead))
        self.same(self.first, Scroll(TWO, steps=self.steps, said=self.said))

    def test_the_first_scroll_stays(self):
        steps = ["a", [BOB], "a"]
        made = self.first.more(steps)
        steps[1].append(CY)
        steps.clear()
        self.assertEqual((len(made), made.company(4)), (4, Company([BOB])))
        self.same(self.first, Scroll(TWO, steps=self.steps, said=self.said))


if __name__ == "__main__":
    unittest.main()
