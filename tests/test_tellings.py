"""Tellings: their count, their numbers, who may have written a sign, and the outermost ones."""

import itertools
import unittest

from by_hand import all_names, chances, company_row, some_scroll, tellings_by_hand

from whoseink.companies import Company
from whoseink.errors import BadNumber, NoSign
from whoseink.scrolls import Scroll
from whoseink.tellings import extreme, farthest, how_many, is_telling, may, must, number_of, telling
from whoseink.writers import read_writer

ANN = read_writer("ann/0a1;1b0/2/0")
BOB = read_writer("bob/0a0/0/1")
CY = read_writer("cy/0a0;0b0/0/0")
TWO = Company([ANN, BOB])
THIRTY = 10 ** 30 - 1


def scroll(text, steps, said=()):
    return Scroll(Company(company_row(text)), steps=steps, said=said)


def scrolls_by_hand(many):
    """So many scrolls that chance makes: each with its names, and its tellings by hand."""
    for chance in chances(many):
        row, steps, said = some_scroll(chance)
        made = Scroll(Company(row), steps=steps, said=said)
        yield made, all_names(row, steps), tellings_by_hand(row, steps, said)


class Checks(unittest.TestCase):

    def no_number(self, made, *numbers):
        for number in numbers:
            with self.assertRaises(BadNumber) as caught:
                telling(made, number=number)
            self.assertEqual((type(caught.exception), caught.exception.word), (BadNumber, "BadNumber"))

    def no_sign(self, made, *places):
        for ask, at in itertools.product((may, must), places):
            with self.assertRaises(NoSign) as caught:
                ask(made, at)
            self.assertEqual((type(caught.exception), caught.exception.at), (NoSign, at))


class Counting(Checks):

    def check(self, made, expected):
        self.assertEqual(how_many(made), len(expected))
        for number, names in enumerate(expected):
            self.assertEqual(telling(made, number=number), names)
            self.assertEqual((number_of(made, names), number_of(made, list(names))), (number, number))
        self.no_number(made, -1, -2, len(expected), len(expected) + 1, THIRTY, -THIRTY)

    def test_by_hand(self):
        self.check(Scroll(TWO, steps=["a"]), [("ann",), ("bob",)])
        self.check(Scroll(TWO, steps=["a", "a"]), [("ann", "bob"), ("bob", "ann")])
        self.check(Scroll(TWO, steps=["a", "a"], said=[(1, "bob", False)]), [("bob", "ann")])
        self.check(Scroll(TWO, steps=["a", "b"]), [("ann", "ann")])
        self.check(Scroll(TWO, steps=["a", [CY], "b"]), [("ann", "cy"), ("bob", "cy")])
        self.check(Scroll(TWO, steps=["b"]), [])

    def test_the_first_one_is_told_where_no_number_is_handed_in(self):
        made = Scroll(TWO, steps=["a", "a"])
        self.assertEqual((telling(made), telling(scroll=made)), (("ann", "bob"), ("ann", "bob")))
        self.assertIsInstance(telling(made), tuple)
        self.assertEqual(number_of(names=("bob", "ann"), scroll=made), 1)
        with self.assertRaises(BadNumber):
            telling(Scroll(TWO, steps=["z"]))

    def test_no_signs_have_one_telling(self):
        for steps in ([], [[CY]], [[], [CY, ANN]]):
            self.check(Scroll(TWO, steps=steps), [()])
        self.check(Scroll(Company(), steps=[]), [()])
        self.check(Scroll(Company(), steps=["a"]), [])

    def test_they_rise_by_names_and_not_by_the_order_of_the_writers(self):
        made = scroll("zoe/0a0/0/0 ann/0a0/0/0 mo/0a0/0/0", ["a", "a"])
        self.check(made, list(itertools.product(("ann", "mo", "zoe"), repeat=2)))
        self.check(scroll("b/0a0/0/0 ab/0a0/0/0 aa/0a0/0/0", ["a"]), [("aa",), ("ab",), ("b",)])

    def test_confessions_that_clash(self):
        for said in (
            [(0, "ann", True), (0, "bob", True)], [(0, "ann", True), (0, "ann", False)],
            [(0, "ann", True), (1, "ann", True)], [(0, "ann", False), (0, "bob", False)], [(1, "nobody", True)],
        ):
            self.check(Scroll(TWO, steps=["a", "a"], said=said), [])

    def test_names_that_nobody_bears(self):
        self.check(Scroll(TWO, steps=["a", "a"], said=[(0, "cy", False)]), [("ann", "bob"), ("bob", "ann")])
        self.check(Scroll(TWO, steps=["a", [CY], "a"], said=[(1, "cy", True), (0, "cy", False)]),
                   [("ann", "cy"), ("bob", "cy")])
        self.check(Scroll(TWO, steps=["a", [CY], "a"], said=[(0, "cy", True)]), [])
        self.check(Scroll(TWO, steps=["a", [CY], "a"], said=[(1, "ann", True)]), [])

    def test_rows_that_are_none(self):
        made = Scroll(TWO, steps=["a", "a", "b"])
        self.check(made, [("ann", "bob", "ann"), ("bob", "ann", "ann")])
        for names in (
            (), ("ann",), ("ann", "bob"), ("ann", "bob", "ann", "bob"), ("ann", "bob", "bob"), ("bob", "bob", "ann"),
            ("ann", "bob", "cy"), ("", "", ""), ("Ann", "bob", "ann"), ("ann", "bob", "ann "), ("nobody",) * 3,
            ("ann",) * 600, ("ann", "bob", "x" * 9000),
        ):
            for row in (names, list(names)):
                with self.subTest(names):
                    self.assertIsNone(number_of(made, row))
                    self.assertIs(is_telling(made, row), False)

    def test_against_all_rows_of_names(self):
        counts = []
        for made, names, expected in scrolls_by_hand(200):
            with self.subTest(company=str(made.company(0)), signs=made.signs(), said=made.said()):
                self.check(made, expected)
                numbers = {each: number for number, each in enumerate(expected)}
                for length in range(len(made) + 2 if len(made) < 4 else 0):
                    for row in itertools.product(names, repeat=length):
                        self.assertEqual(number_of(made, row), numbers.get(row))
                        self.assertIs(is_telling(made, row), row in numbers)
            counts.append(len(expected))
        self.assertTrue(counts.count(0) > 20 and len(set(counts)) > 8, sorted(counts))

    def test_twenty_four_signs_of_two_or_three_writers(self):
        for text, names in (("y/0a0/0/0 x/0a0/0/0", "xy"), ("z/0a0/0/0 x/0a0/0/0 y/0a0/0/0", "xyz")):
            made = scroll(text, ["a"] * 24)
            many = len(names) ** 24
            self.assertEqual(how_many(made), many)
            for number in (0, 1, many // 3, many // 2, 12345678, many - 2, many - 1):
                # The numbers of the names are the figures of the telling's number.
                figures = [names[number // len(names) ** (23 - at) % len(names)] for at in range(24)]
                self.assertEqual(telling(made, number=number), tuple(figures))
                self.assertEqual(number_of(made, figures), number)
                self.assertIs(is_telling(made, figures), True)
            self.no_number(made, -1, many, many + 1, THIRTY)
            self.assertEqual([may(made, at) for at in range(24)], [list(names)] * 24)

    def test_asking_changes_nothing(self):
        steps, said = ["a", [CY, ANN], "a"], [(0, "bob", False)]
        made = Scroll(TWO, steps=steps, said=said)
        first = (how_many(made), telling(made, number=0), may(made, 1))
        lots = (made.forth(), made.live())
        self.assertEqual((how_many(made), telling(made, number=0), may(made, 1)), first)
        self.assertEqual((made.forth(), made.live(), made.signs(), made.said()), (*lots, ["a", "a"], said))


class Telling(Checks):

    def test_lists_and_tuples(self):
        made = Scroll(TWO, steps=["a", "a"])
        row = ["ann", "bob"]
        self.assertIs(is_telling(made, row), True)
        self.assertIs(is_telling(names=tuple(row), scroll=made), True)
        number_of(made, row)
        farthest(made, row)
        self.assertEqual(row, ["ann", "bob"])

    def test_a_patience_broken(self):
        made = scroll("ann/0a0/2/0 bob/0a0/0/0", ["a"] * 4)
        for text, expected in (
            ("bbab", True), ("bbba", False), ("abbb", False), ("abba", True), ("babb", True), ("bbbb", False),
            ("aaaa", True),
        ):
            self.assertIs(is_telling(made, [{"a": "ann", "b": "bob"}[word] for word in text]), expected, text)

    def test_a_cap_broken(self):
        made = scroll("ann/0a0/0/2 bob/0a0/0/0", ["a"] * 4)
        for text, expected in (("aaba", True), ("aaab", False), ("baaa", False), ("baab", True), ("bbbb", True)):
            self.assertIs(is_telling(made, [{"a": "ann", "b": "bob"}[word] for word in text]), expected, text)

    def test_a_cap_that_goes_on_over_a_company(self):
        kept, other = company_row("ann/0a0/0/2 bob/0a0/0/0"), company_row("ann/0a0/0/3")
        for turn, expected in ((kept, False), (kept[:1], False), (other, True)):
            made = Scroll(Company(kept), steps=["a", "a", turn, "a"])
            self.assertIs(is_telling(made, ["ann"] * 3), expected)

    def test_a_confession_broken(self):
        said = [(0, "ann", True), (1, "bob", False)]
        made = scroll("ann/0a0/0/0 bob/0a0/0/0", ["a", "a", "a"], said)
        for row in itertools.product(("ann", "bob"), repeat=3):
            self.assertIs(is_telling(made, row), row[:2] == ("ann", "ann"))

    def test_an_arrow_that_lacks(self):
        made = scroll("ann/0a1;1b0/0/0 bob/0a0/0/0", ["a", "a", "b"])
        for row in itertools.product(("ann", "bob"), repeat=3):
            self.assertIs(is_telling(made, row), row in (("ann", "bob", "ann"), ("bob", "ann", "ann")))


class MayAndMust(Checks):

    def test_by_hand(self):
        made = Scroll(TWO, steps=["a", "a", "b"], said=[(0, "bob", True)])
        self.assertEqual([may(made, at) for at in range(3)], [["bob"], ["ann"], ["ann"]])
        self.assertEqual([must(made, at) for at in range(3)], ["bob", "ann", "ann"])
        made = Scroll(TWO, steps=["a", "a", "b"])
        self.assertEqual([may(scroll=made, at=at) for at in range(3)], [["ann", "bob"], ["ann", "bob"], ["ann"]])
        self.assertEqual([must(scroll=made, at=at) for at in range(3)], [None, None, "ann"])

    def test_a_dead_end_is_no_telling(self):
        # Bob may write the a, but nobody could write the b behind it.
        made = scroll("bob/0a0/0/0 ann/0a1;1b1/0/0", ["a", "b"])
        self.assertEqual((may(made, 0), must(made, 0)), (["ann"], "ann"))

    def test_they_rise(self):
        made = scroll("zoe/0a0/0/0 mo/0a0/0/0 ann/0a0/0/0", ["a"])
        self.assertEqual(may(made, 0), ["ann", "mo", "zoe"])

    def test_no_telling_at_all(self):
        for made in (Scroll(TWO, steps=["a", "b", "b"]), Scroll(TWO, steps=["a"] * 3, said=[(2, "nobody", True)])):
            self.assertEqual([may(made, at) for at in range(3)], [[], [], []])
            self.assertEqual([must(made, at) for at in range(3)], [None, None, None])
            self.no_sign(made, 3)

    def test_no_sign(self):
        for steps in ([], [[CY]], ["a"], ["a", [CY], "b", [ANN]]):
            made = Scroll(TWO, steps=steps)
            self.no_sign(made, -1, -2, len(made), len(made) + 1, THIRTY, -THIRTY)

    def test_told_lists_are_new_ones(self):
        made = Scroll(TWO, steps=["a", "a"])
        told = may(made, 0)
        told.append("odd")
        told.reverse()
        self.assertEqual(may(made, 0), ["ann", "bob"])
        may(made, 0).clear()
        self.assertEqual((may(made, 0), must(made, 0)), (["ann", "bob"], None))

    def test_against_all_tellings(self):
        for made, _, expected in scrolls_by_hand(250):
            with self.subTest(company=str(made.company(0)), signs=made.signs(), said=made.said()):
                for at in range(len(made)):
                    names = sorted({names[at] for names in expected})
                    self.assertEqual(may(made, at), names)
                    self.assertEqual(must(made, at), names[0] if len(names) == 1 else None)


class Outermost(Checks):

    def unlike(self, one, other):
        return len([at for at, name in enumerate(one) if name != other[at]])

    def test_by_hand(self):
        made = scroll("ann/0a0/0/2 bob/0a0/0/0", ["a"] * 5)
        self.assertEqual(extreme(made, "ann").count("ann"), 4)
        self.assertEqual(extreme(scroll=made, name="ann", most=True).count("ann"), 4)
        self.assertEqual(extreme(made, "ann", most=False), ("bob",) * 5)
        self.assertEqual(extreme(made, "bob"), ("bob",) * 5)
        self.assertEqual(extreme(made, "bob", most=False), ("ann", "ann", "bob", "ann", "ann"))
        self.assertEqual(farthest(made, ["ann"] * 5), ("bob",) * 5)
        self.assertEqual(farthest(names=("bob",) * 5, scroll=made), ("ann", "ann", "bob", "ann", "ann"))

    def test_names_that_nobody_bears(self):
        made = Scroll(TWO, steps=["a", "a"])
        for most, name in itertools.product((True, False), ("nobody", "cy", "Ann", "")):
            self.assertIs(is_telling(made, extreme(made, name, most=most)), True)
        self.assertIs(is_telling(made, farthest(made, ["nobody", ""])), True)

    def test_none_where_there_is_no_telling(self):
        for made in (Scroll(TWO, steps=["b"]), Scroll(TWO, steps=["a"], said=[(0, "cy", True)])):
            self.assertIsNone(extreme(made, "ann"))
            self.assertIsNone(extreme(made, "ann", most=False))
            self.assertIsNone(farthest(made, ["ann"]))

    def test_no_signs(self):
        made = Scroll(TWO, steps=[[CY]])
        self.assertEqual((extreme(made, "ann"), extreme(made, "ann", most=False), farthest(made, [])), ((), (), ()))

    def test_against_all_tellings(self):
        for made, names, expected in scrolls_by_hand(200):
            with self.subTest(company=str(made.company(0)), signs=made.signs(), said=made.said()):
                for name in names:
                    self.is_outermost(extreme(made, name), expected, lambda row: row.count(name))
                    self.is_outermost(extreme(made, name, most=False), expected, lambda row: -row.count(name))
                for row in itertools.islice(itertools.product(names, repeat=len(made)), 0, None, 7):
                    self.is_outermost(farthest(made, list(row)), expected, lambda each: self.unlike(each, row))
                    self.assertEqual(farthest(made, row), farthest(made, list(row)))
                self.assertEqual(extreme(made, names[0]), extreme(made, names[0]))

    def is_outermost(self, told, expected, worth):
        if not expected:
            self.assertIsNone(told)
            return
        self.assertIn(told, expected)
        self.assertEqual(worth(told), max(worth(row) for row in expected))

    def test_of_twenty_four_signs(self):
        made = scroll("x/0a0/0/0 y/0a0/0/3 z/0a0/2/0", ["a"] * 24)
        self.assertEqual(extreme(made, "y").count("y"), 16)
        self.assertEqual(extreme(made, "z", most=False).count("z"), 8)
        self.assertEqual(self.unlike(farthest(made, ["z"] * 24), ["z"] * 24), 16)


if __name__ == "__main__":
    unittest.main()
