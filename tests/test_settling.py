"""Settling: rows of signs to come that leave one name, and tables that show that none does."""

import itertools
import unittest

from by_hand import all_names, chances, company_row, some_scroll, stands_of_row, tellings_by_hand

from whoseink.companies import Company, lot_behind
from whoseink.errors import NoSign, TooMany, Unwritten
from whoseink.scrolls import Scroll
from whoseink.settling import MOST_TUPLES, is_never, settle, settles
from whoseink.tellings import may
from whoseink.writers import read_writer

ANN = read_writer("ann/0a1;1b0/2/0")
BOB = read_writer("bob/0a0/0/1")
CY = read_writer("cy/0a0;0b0/0/0")
TWO = Company([ANN, BOB])
THIRTY = 10 ** 30 - 1
FREE = ((0, 0), (0, 0), (-1, 0))
# All rows come to just so many tuples, none of which is settled.
NEVER_600 = "x/0a1;0b2;1a2;1b0;2a1;2b1/3/1 y/0a1;0b0;1a1;1b0;2a0;2b1/3/0 z/1c0;2c2/0/3"
NEVER_601 = "x/0a2;0b1;1a0;1b0;2a2;2b0/2/2 y/0a0;0b1;1a1;1b1;2a2;2b2/0/0 z/1c1;2c2/0/0"
# Rows of up to 9 signs come to 601 tuples, none of which is settled; longer ones come to more.
SIX_HUNDRED_AND_ONE = "x/0a1;0b2/0/0 y/0a1;0b2;1a0;1b2;2a0;2b0/0/3 z/0a0;0b2;1a0;1b1;2a0;2b0/3/3"
# Rows of up to 9 signs come to 419 tuples, one more sign to 639, some of which are settled.
ROW_BEYOND = "x/0b1;1a0/2/2 y/0a1;0b1;1a1;2a0/0/1 z/0a1;0b0;1b2;2a0;2b0/0/2"
ODD_TABLES = (None, 0, "odd", [None], [()], ["odd"], [([],)], [[[]]], [(None, None)], {})


def scroll(text, steps, said=()):
    return Scroll(Company(company_row(text)), steps=list(steps), said=said)


def levels(made, at):
    """How many tuples rows of up to 0, 1, 2 .. signs come to, until one is settled or no further one is met."""
    names = may(made, at)
    company = made.company(len(made))
    begins = [Scroll(made.company(0), steps=made.signs(), said=[*made.said(), (at, name, True)]) for name in names]
    met = {tuple(tuple(each.forth()[-1]) for each in begins)}
    level, counts = list(met), []
    while level:
        counts.append(len(met))
        if any(len([lot for lot in lots if lot]) == 1 for lots in level):
            break
        behind = {
            tuple(tuple(lot_behind(company, lot, sign)) for lot in lots)
            for lots in level for sign in "abc" if any(lot_behind(company, lot, sign) for lot in lots)
        }
        level = sorted(behind - met)
        met |= behind
    return counts


def left_by_hand(row, steps, said, at, signs):
    """The name that is left where these signs come, all rows of names being gone through."""
    names = sorted({names[at] for names in tellings_by_hand(row, [*steps, *signs], said)})
    return names[0] if len(names) == 1 else None


def lots_by_hand(row, steps, said, at):
    """The tuple of lots of stands behind the tellings, by the names that they have at the sign."""
    lots = {}
    for names in tellings_by_hand(row, steps, said):
        lots.setdefault(names[at], set()).add(stands_of_row(row, steps, names)[-1])
    return tuple(sorted(lots[name]) for name in sorted(lots))


class Checks(unittest.TestCase):

    def refused(self, kind, ask):
        with self.assertRaises(kind) as caught:
            ask()
        self.assertIs(type(caught.exception), kind)
        return caught.exception


class Settling(Checks):

    def test_bound(self):
        self.assertEqual(MOST_TUPLES, 600)

    def test_the_empty_row(self):
        for text, steps, said, name in (
            ("ann/0a0/0/0 bob/0b0/0/0", "a", [], "ann"), ("ann/0a0/0/0 bob/0a0/0/0", "a", [(0, "bob", True)], "bob"),
            ("ann/0a0/0/0 bob/0a0/0/0", "a", [(0, "bob", False)], "ann"), ("ann/0a1/0/0", "a", [], "ann"),
        ):
            told = settle(scroll(text, steps, said), 0)
            self.assertEqual((told, type(told), type(told[1])), (("row", (), name), tuple, tuple))
            self.assertEqual(settles(scroll(text, steps, said), 0, ()), name)

    def test_one_sign_and_more(self):
        # Only one who wrote the first a can write a b.
        made = scroll("ann/0a1;1b1/0/0 bob/0a0/0/0", "a")
        self.assertEqual(settle(made, 0), ("row", ("b",), "ann"))
        self.assertEqual(settle(at=0, scroll=made), ("row", ("b",), "ann"))
        # Ann's c comes behind her b alone.
        made = scroll("ann/0a1;1b2;2c2/0/0 bob/0a0;0b0/0/0", "a")
        self.assertEqual(settle(made, 0), ("row", ("b", "c"), "ann"))

    def test_the_name_that_cannot_go_on_drops_out(self):
        # Behind bob's a and hers, ann's cap keeps her from a third one, and bob is done.
        made = scroll("ann/0a0/0/1 bob/0a1/0/0", ["a"])
        self.assertEqual(settle(made, 0), ("row", ("a", "a"), "ann"))
        made = scroll("ann/0a1/0/0 bob/0a0;0b0/0/0", "a")
        self.assertEqual((settle(made, 0)[0], settles(made, 0, ["b"])), ("never", None))
        made = scroll("ann/0a1;1c1/0/0 bob/0a2;2d2/0/0", "a")
        self.assertIn(settle(made, 0), (("row", ("c",), "ann"), ("row", ("d",), "bob")))

    def test_never(self):
        made = scroll("ann/0a0/0/0 bob/0a0/0/0", "aa")
        for at in (0, 1):
            self.assertEqual(settle(made, at), ("never", [([FREE], [FREE])]))
        told = settle(scroll("ann/0a0/0/0 bob/0a0/0/0 cy/0a0/0/0", "a", [(0, "ann", False)]), 0)
        self.assertEqual(told, ("never", [([((0,) * 3, (0,) * 3, (-1, 0))],) * 2]))
        # Nobody can write on.
        behind = ((1,), (0,), (-1, 0))
        self.assertEqual(settle(scroll("ann/0a1/0/0", "a"), 0), ("row", (), "ann"))
        made = Scroll(Company(company_row("ann/0a1/0/0 bob/0a1/0/0")), steps=["a", "a", company_row("ann/0a1/0/0")])
        self.assertEqual(settle(made, 0), ("never", [([behind], [behind])]))

    def test_no_sign(self):
        for steps, said in (
            ([], []), ([[CY]], []), (["a", [CY], "b", [ANN]], []), (["b"], []), (["a"], [(0, "cy", True)]),
        ):
            made = Scroll(TWO, steps=steps, said=said)
            for at in (-1, -2, len(made), len(made) + 1, THIRTY, -THIRTY):
                asks = [lambda: settle(made, at)]
                asks += [lambda table=table: is_never(made, at, table) for table in ODD_TABLES]
                asks += [lambda signs=signs: settles(made, at, signs) for signs in ([], ["a"], ["a"] * 9, ["z", ""])]
                for ask in asks:
                    self.assertEqual(self.refused(NoSign, ask).at, at)

    def test_unwritten(self):
        for made in (
            Scroll(TWO, steps=["a", "b", "b"]), Scroll(TWO, steps=["a", "a"], said=[(1, "nobody", True)]),
            Scroll(TWO, steps=["z"]), scroll(SIX_HUNDRED_AND_ONE, "z"),
        ):
            for at in range(len(made)):
                self.assertEqual(self.refused(Unwritten, lambda: settle(made, at)).at, 0)
                self.assertIsNone(settles(made, at, []))
                self.assertIsNone(settles(made, at, ["a"]))

    def test_too_many(self):
        for text, signs in ((SIX_HUNDRED_AND_ONE, "b"), (NEVER_601, "a")):
            made = scroll(text, signs)
            self.assertIn(601, levels(made, 0))
            for _ in range(2):
                self.assertEqual(self.refused(TooMany, lambda: settle(made, 0)).most, 600)
        self.assertEqual(levels(scroll(NEVER_601, "a"), 0)[-1], 601)

    def test_nearly_too_many(self):
        made = scroll(NEVER_600, "a")
        self.assertEqual(levels(made, 0)[-1], 600)
        word, table = settle(made, 0)
        self.assertEqual((word, len(table)), ("never", 600))
        self.assertIs(is_never(made, 0, table), True)
        self.assertIs(is_never(made, 0, table[:-1]), False)

    def test_a_row_whose_last_sign_comes_to_too_many(self):
        made = scroll(ROW_BEYOND, "bbb")
        self.assertEqual(levels(made, 0)[-2:], [419, 639])
        word, signs, name = settle(made, 0)
        self.assertEqual((word, len(signs)), ("row", 10))
        self.assertEqual((may(made.more(signs), 0), settles(made, 0, signs)), ([name], name))

    def test_companies_behind_the_last_sign(self):
        row = company_row("ann/0a1;1b1/0/0 bob/0a0/0/0")
        for steps, expected in (
            (["a", row[:1]], "row"), (["a", [row[1]]], "never"),
            (["a", []], ("never", [([((), (), (-1, 0))],) * 2])), (["a", [], row], "never"),
            (["a", [row[1], row[0]]], ("row", ("b",), "ann")), (["a", [], [CY, row[0]]], "never"),
        ):
            told = settle(Scroll(Company(row), steps=steps), 0)
            self.assertIn(expected, (told, told[0]))

    def test_more_stands_than_sixty_are_not_refused(self):
        made = scroll("x/0a1;1a2;2a0/3/3 y/0a1;1a2;2a0/3/3 z/0a1;0b0;1a2;2a0/3/3", "a")
        with self.assertRaises(TooMany):
            made.company(0).stands()
        self.assertIn(settle(made, 0)[0], ("row", "never"))

    def test_the_same_asked_again(self):
        for text, signs in ((NEVER_600, "a"), (ROW_BEYOND, "bbb")):
            made = scroll(text, signs)
            self.assertEqual(settle(made, 0), settle(scroll(text, signs), 0))

    def test_told_tables_are_new_ones(self):
        made = scroll("ann/0a0/0/0 bob/0a0/0/0", "a")
        lots = settle(made, 0)[1][0]
        lots[0].append("odd")
        self.assertEqual(lots[1], [FREE])
        _, table = settle(scroll(NEVER_600, "a"), 0)
        kept = [tuple(list(lot) for lot in lots) for lots in table]
        table[0][0].append("odd")
        self.assertEqual(table[1:], kept[1:])
        table.clear()
        self.assertEqual(settle(scroll(NEVER_600, "a"), 0), ("never", kept))

    def test_against_all_rows_of_signs(self):
        words = []
        for chance in chances(300):
            row, steps, said = some_scroll(chance, most=3)
            made = Scroll(Company(row), steps=steps, said=said)
            for at in range(len(made)):
                with self.subTest(row=row, steps=steps, said=said, at=at):
                    words.append(self.check(row, steps, said, at))
        self.assertTrue({"never", "unwritten", 0, 1, 2} <= set(words), set(words))

    def check(self, row, steps, said, at):
        made = Scroll(Company(row), steps=steps, said=said)
        if not may(made, at):
            self.refused(Unwritten, lambda: settle(made, at))
            return "unwritten"
        try:
            told = settle(made, at)
        except TooMany:
            self.assertTrue(any(many > 600 for many in levels(made, at)))
            return "too many"
        most = 3 if len(made) < 3 else 2
        rows = [signs for many in range(most + 1) for signs in itertools.product("ab", repeat=many)]
        left = {signs: left_by_hand(row, steps, said, at, signs) for signs in rows}
        for signs in rows:
            self.assertEqual((settles(made, at, signs), settles(made, at, list(signs))), (left[signs],) * 2)
        if told[0] == "never":
            self.assertEqual(set(left.values()), {None})
            self.assertIs(is_never(made, at, told[1]), True)
            self.assertEqual(told[1][0], lots_by_hand(row, steps, said, at))
            return "never"
        _, signs, name = told
        self.assertEqual((may(made.more(signs), at), settles(made, at, signs)), ([name], name))
        shorter = [each for each in rows if len(each) < len(signs)]
        self.assertEqual({left[each] for each in shorter} - {None}, set())
        return len(signs)


class Settles(Checks):

    def test_by_hand(self):
        made = scroll("ann/0a1;1b1/0/0 bob/0a0/0/0", "a")
        for signs, expected in (
            ("", None), ("b", "ann"), ("a", None), ("ab", None), ("ba", "ann"), ("bb", "ann"), ("bz", None),
            ("z", None), ("aab", None), ("baa", "ann"),
        ):
            for row in (list(signs), tuple(signs)):
                self.assertEqual(settles(made, 0, row), expected, signs)
        self.assertEqual(settles(signs=["b"], at=0, scroll=made), "ann")

    def test_a_sign_to_come_is_none_of_the_scroll(self):
        made = scroll("ann/0a1;1b1/0/0 bob/0a0/0/0", "a")
        for signs in ([], ["a"], ["a", "b"], ["b"] * 600):
            for at in (1, 2, len(signs), -1):
                if at != 0:
                    self.assertEqual(self.refused(NoSign, lambda: settles(made, at, signs)).at, at)

    def test_odd_signs_settle_nothing(self):
        made = scroll("ann/0a1;1b1/0/0 bob/0a0/0/0", "a")
        for odd in ("", "A", "ab", " ", "b "):
            self.assertIsNone(settles(made, 0, ["b", odd]))
            self.assertIsNone(settles(made, 0, [odd, "b"]))

    def test_long_rows(self):
        made = scroll("ann/0a1;1b1/0/0 bob/0a0/0/0", "a")
        signs = ["b"] + ["a"] * 599
        self.assertEqual(settles(made, 0, signs), "ann")
        self.assertEqual(signs, ["b"] + ["a"] * 599)
        self.assertIsNone(settles(made, 0, ["a"] * 600))

    def test_confessions_of_other_signs(self):
        made = scroll("ann/0a1;1b1/0/0 bob/0a0/0/0", "aa", [(1, "bob", True)])
        self.assertEqual((settles(made, 0, []), settles(made, 0, ["b"])), (None, "ann"))
        self.assertEqual(settles(made, 1, []), "bob")
        made = scroll("ann/0a1;1b1/0/0 bob/0a0/0/0", "aa", [(1, "ann", True)])
        self.assertEqual((settles(made, 0, []), settles(made, 1, ["b", "b"])), ("bob", "ann"))


class Never(Checks):

    def each(self, many=150, most=30):
        """Scrolls with signs of which no row settles, their tables, of at most so many tuples, and their names."""
        for chance in chances(many):
            row, steps, said = some_scroll(chance, most=3)
            made = Scroll(Company(row), steps=steps, said=said)
            for at in range(len(made)):
                told = settle(made, at) if may(made, at) else ("row", (), "")
                if told[0] == "never" and len(told[1]) <= most:
                    yield made, at, told[1], may(made, at)

    def shows(self, made, at, table, expected):
        kept = [tuple(list(lot) for lot in lots) for lots in table]
        self.assertIs(is_never(made, at, table), expected)
        self.assertEqual(table, kept)

    def test_told_ones_turned_about_and_twice(self):
        for made, at, table, names in self.each(most=600):
            self.shows(made, at, table, True)
            self.shows(made, at, table[::-1], True)
            self.shows(made, at, table * 2, True)
            self.shows(made, at, table + [tuple([] for _ in names)], True)

    def test_a_tuple_or_a_lot_out_or_in(self):
        changed = 0
        for made, at, table, names in self.each():
            self.shows(made, at, [], False)
            for number, lots in enumerate(table):
                self.shows(made, at, table[:number] + table[number + 1:], False)
                ahead, behind = table[:number], table[number + 1:]
                self.shows(made, at, ahead + [lots + ([],)] + behind, False)
                self.shows(made, at, table + [lots + (lots[0],)], False)
                self.shows(made, at, table + [()], False)
                for lot in range(len(lots)):
                    self.shows(made, at, ahead + [lots[:lot] + lots[lot + 1:]] + behind, False)
                    self.shows(made, at, table + [lots[:lot] + lots[lot + 1:]], False)
                    only = tuple(each if at == lot else [] for at, each in enumerate(lots))
                    if lots[lot]:
                        self.shows(made, at, table + [only], False)
                        changed += 1
        self.assertGreater(changed, 60)

    def test_a_stand_out_twice_or_in(self):
        changed = 0
        for made, at, table, _ in self.each():
            for number, lots in enumerate(table):
                for lot, stand in [(lot, stand) for lot in range(len(lots)) for stand in range(len(lots[lot]))]:
                    rows = [list(lots[lot]) for _ in range(3)]
                    del rows[0][stand]
                    rows[1].insert(stand, rows[1][stand])
                    rows[2].append(rows[2].pop(stand))
                    for row in rows:
                        if row != lots[lot]:
                            other = lots[:lot] + (row,) + lots[lot + 1:]
                            self.shows(made, at, table[:number] + [other] + table[number + 1:], False)
                            changed += 1
        self.assertGreater(changed, 200)

    def test_a_lot_that_is_not_ascending_shows_nothing_wherever_it_stands(self):
        made = scroll("ann/0a0/0/0 bob/0a0;0b1/0/0", "a")
        table = settle(made, 0)[1]
        begin, behind = FREE, ((0, 1), (0, 0), (-1, 0))
        self.assertEqual(table, [([begin], [begin]), ([behind], [behind])])
        both = [begin, behind]
        self.shows(made, 0, table + [(both, both)], True)
        self.shows(made, 0, table + [(both, [begin])], True)
        self.shows(made, 0, table + [(both, [behind])], False)
        for odd in (both[::-1], [begin, begin], [behind, behind], [begin, behind, behind]):
            self.shows(made, 0, table + [(both, both), (odd, both)], False)
            self.shows(made, 0, table + [(both, both), (both, odd)], False)
            self.shows(made, 0, [(odd, odd)] + table, False)

    def test_lots_exchanged(self):
        made = scroll("ann/0a0/0/0 bob/0a1;1a1/0/0", "a")
        bobs = ((0, 1), (0, 0), (-1, 0))
        table = [([FREE], [bobs]), ([FREE, bobs], [bobs])]
        self.assertEqual(settle(made, 0), ("never", table))
        self.shows(made, 0, table, True)
        self.shows(made, 0, [lots[::-1] for lots in table], False)
        for at in (0, 1):
            self.shows(made, 0, table[:at] + [table[at][::-1]] + table[at + 1:], False)
        self.shows(made, 0, table + [lots[::-1] for lots in table], True)

    def test_what_is_not_led_to(self):
        made = scroll("ann/0a0;1a1/0/0 bob/0a0/0/0", "a")
        table = [([FREE], [FREE])]
        self.shows(made, 0, table, True)
        other, third = ((1, 0), (0, 0), (-1, 0)), ((2, 2), (0, 0), (-1, 0))
        self.shows(made, 0, table + [([other], [other])], True)
        self.shows(made, 0, table + [([FREE], [other])], True)
        self.shows(made, 0, table + [([third], [third])], True)
        # By an a the one lot goes on alone.
        self.shows(made, 0, table + [([third], [FREE])], False)
        self.shows(made, 0, table + [([], [])], True)
        self.shows(made, 0, table + [([], [third])], False)
        self.shows(made, 0, [([], [])], False)
        self.shows(made, 0, [([other], [other])], False)

    def test_a_sign_that_some_row_settles(self):
        made = scroll("ann/0a1;1b1/0/0 bob/0a0/0/0", "a")
        ann, bob = ((1, 0), (0, 0), (-1, 0)), FREE
        self.shows(made, 0, [([ann], [bob])], False)
        self.shows(made, 0, [([ann], [bob]), ([ann], [ann, bob])], False)
        self.shows(made, 0, [([ann], [bob]), ([ann], [bob, ann]), ([ann], [])], False)
        self.shows(made, 0, [([ann], [bob]), ([ann], [bob, ann]), ([ann], []), ([ann], [ann])], False)

    def test_just_one_name_is_settled(self):
        made = scroll("ann/0a0/0/0 bob/0b0/0/0", "a")
        for table in ([([FREE],)], [([FREE],), ([],)], [([],)], [], [([FREE], [])], [([FREE], [FREE])]):
            self.shows(made, 0, table, False)

    def test_three_names(self):
        made = scroll("cy/0a0/0/0 ann/0a0/0/0 bob/0a0;0b0/0/0", "a")
        stand = ((0,) * 3, (0,) * 3, (-1, 0))
        self.assertEqual(settle(made, 0), ("never", [([stand],) * 3]))
        self.shows(made, 0, [([stand],) * 3], True)
        self.shows(made, 0, [([stand],) * 3, ([stand], [stand], [])], True)
        self.shows(made, 0, [([stand],) * 3, ([stand], [], [])], False)
        self.shows(made, 0, [([stand],) * 2], False)

    def test_against_all_names(self):
        for made, at, table, names in self.each(40, most=600):
            self.assertIs(is_never(table=table, at=at, scroll=made), True)
            self.assertTrue(all(len(lots) == len(names) for lots in table))
            self.assertTrue(all(lot == sorted(set(lot)) for lots in table for lot in lots))
            self.assertTrue(all(name in all_names(made.company(at).writers(), []) for name in names))


if __name__ == "__main__":
    unittest.main()
