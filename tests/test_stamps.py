"""Stamps: the cheapest kinds of signs to be stamped, and what shows that no cheaper ones do."""

import itertools
import unittest

from by_hand import chances, company_row, some_writer, stands_of_row

from whoseink.companies import Company
from whoseink.delays import delay
from whoseink.errors import Still, TooMany
from whoseink.stamps import cheapest, is_cheapest

SIXTY_NEVER_STILL = "x/0a0;2a1/3/3 y/0b1;1b2;2b2/0/1 z/0b1;1a0/2/3"
SIXTY_ONE = "x/0a1;1a2/1/0 y/0a2;1a0;2a1/2/3 z/0a2;0b0;2a1;2b1/0/1"
# More than 60 stands, of which one that is two signs away is still.
MANY_AND_STILL = "x/0a2;0b1;1a0;2a2;2b2/0/0 y/0a2;0b0;1b0;2b2/2/3 z/0a1;0b2;1a1;1b2;2b0/2/0"
FREE = "ann/0a0/0/0 bob/0a0/0/0"
TURNS = "ann/0a1;1b1/1/1 bob/0a0/0/1"


def company(text):
    return Company(company_row(text))


def lots_of(prices):
    """All lots of places, the one to be taken first ahead."""
    lots = [lot for many in range(len(prices) + 1) for lot in itertools.combinations(range(len(prices)), many)]
    return sorted(lots, key=lambda lot: (sum(prices[at][2] for at in lot), len(lot), lot))


def kinds_of(prices, lot):
    return tuple(tuple(prices[at][:2]) for at in lot)


def cost_of(prices, kinds):
    return sum(price for name, sign, price in prices if (name, sign) in kinds)


def does(made, kinds, most):
    told = delay(made, stamps=kinds)
    return told[0] == "known" and told[1] <= most


def by_hand(made, prices, most):
    """The cheapest kinds, or None, all lots being gone through."""
    for lot in lots_of(prices):
        if does(made, kinds_of(prices, lot), most):
            return kinds_of(prices, lot)
    return None


def left_alike(kinds, triple):
    return all(
        name == second or ((name, sign) not in kinds and (second, sign) not in kinds)
        for sign, name, second in zip(*triple)
    )


def small_ones(many):
    """Companies that are never still, each with prices and a number, all made by chance."""
    for chance in chances(many):
        names = ["ann", "bob", "cy"][:chance.randrange(1, 4)]
        row = [some_writer(chance, name, density=0.4) for name in names]
        made = Company(row)
        try:
            delay(made)
        except (TooMany, Still):
            continue
        kinds = [(name, sign) for name in [*names, "zoe"] for sign in "abc"]
        prices = [
            (*kind, chance.choice((0, 1, 1, 2, 3, 1000))) for kind in chance.sample(kinds, chance.randrange(6))
        ]
        yield row, prices, chance.choice((0, 0, 1, 2, 3))


class Checks(unittest.TestCase):

    def refused(self, kind, ask):
        with self.assertRaises(kind) as caught:
            ask()
        self.assertIs(type(caught.exception), kind)
        return caught.exception

    def are_tellings(self, made, triple, most):
        """Whether it is a triple of two tellings of a strip, unlike just so many signs ahead of the end."""
        strip, one, other = triple
        self.assertTrue(all(type(row) is tuple for row in (triple, strip, one, other)))
        self.assertEqual((len(one), len(other)), (len(strip), len(strip)))
        for names in (one, other):
            self.assertIsNotNone(stands_of_row(made.writers(), strip, names))
        at = len(strip) - 1 - most
        self.assertGreaterEqual(at, 0)
        self.assertNotEqual(one[at], other[at])

    def is_told(self, made, prices, most):
        """Asks for the cheapest stamps, and holds what is told against all lots."""
        told = cheapest(made, prices, most=most)
        expected = by_hand(made, prices, most)
        shown = told[-1]
        self.assertEqual((type(told), type(shown)), (tuple, list))
        for triple in shown:
            self.are_tellings(made, triple, most)
        lots = [kinds_of(prices, lot) for lot in lots_of(prices)]
        if expected is None:
            self.assertEqual((len(told), told[0]), (2, "none"))
        else:
            self.assertEqual(told[:2], ("stamps", expected))
            self.assertEqual([type(kinds) for kinds in (told[1], *told[1])], [tuple] * (len(expected) + 1))
            self.assertIs(is_cheapest(made, prices, told[1], shown, most=most), True)
            lots = [lot for lot in lots if cost_of(prices, lot) < cost_of(prices, expected)]
        for lot in lots:
            self.assertTrue(any(left_alike(lot, triple) for triple in shown), lot)
        return told


class Cheapest(Checks):

    def test_by_hand(self):
        made = company(FREE)
        for prices, kinds in (
            ([("ann", "a", 3), ("bob", "a", 2)], (("bob", "a"),)),
            ([("ann", "a", 2), ("bob", "a", 3)], (("ann", "a"),)),
            ([("bob", "a", 1000)], (("bob", "a"),)),
            ([("ann", "b", 0), ("ann", "a", 5), ("cy", "a", 0)], (("ann", "a"),)),
        ):
            for row in (prices, tuple(prices)):
                word, told, shown = self.is_told(made, row, 0)
                self.assertEqual((word, told), ("stamps", kinds))
            self.assertEqual(len(shown), 1)

    def test_kinds_as_they_stand_in_the_prices(self):
        made = company("ann/0a0;0b0/0/0 bob/0a0;0b0/0/0")
        prices = [("bob", "b", 1), ("ann", "c", 0), ("ann", "a", 1)]
        self.assertEqual(self.is_told(made, prices, 0)[1], (("bob", "b"), ("ann", "a")))
        self.assertEqual(self.is_told(made, prices[::-1], 0)[1], (("ann", "a"), ("bob", "b")))

    def test_equal_sums(self):
        three = company("ann/0a0/0/0 bob/0a0/0/0 cy/0a0/0/0")
        # Two of three must be stamped: of lots of one sum the first one by the places.
        rows = [("cy", "a", 2), ("ann", "a", 2), ("bob", "a", 2)]
        for prices in itertools.permutations(rows):
            self.assertEqual(self.is_told(three, prices, 0)[1], kinds_of(prices, (0, 1)))
        # Of a sum of 2 there are three lots that do: one kind does with fewer than two do.
        made = company("ann/0a0;0b0/0/0 bob/0a0/0/0 cy/0b0/0/0")
        prices = [("bob", "a", 1), ("cy", "b", 1), ("ann", "a", 1), ("ann", "b", 1)]
        self.assertEqual(self.is_told(made, prices, 0)[1], (("bob", "a"), ("cy", "b")))
        self.assertEqual(self.is_told(company(FREE), [("cy", "a", 0), ("ann", "a", 4), ("bob", "a", 4)], 0)[1],
                         (("ann", "a"),))

    def test_fewest_kinds_go_ahead_of_the_places(self):
        # By ann's a's alone, as by bob's and cy's together, all is known, for the same sum.
        made = company("ann/0a0/0/0 bob/0a0;0b0/0/0 cy/0b0/0/0")
        prices = [("ann", "b", 0), ("bob", "a", 1), ("cy", "b", 1), ("bob", "b", 1), ("ann", "a", 1)]
        self.assertEqual(self.is_told(made, prices, 0)[1], (("bob", "a"), ("cy", "b")))
        free = [("zoe", "a", 0), ("bob", "a", 0), ("ann", "a", 0)]
        self.assertEqual(self.is_told(company(FREE), free, 0), ("stamps", (("bob", "a"),), []))

    def test_prices_of_nought(self):
        made = company(FREE)
        self.assertEqual(cheapest(made, [("ann", "a", 0)]), ("stamps", (("ann", "a"),), []))
        self.assertEqual(self.is_told(made, [("ann", "a", 1), ("bob", "a", 0)], 0), ("stamps", (("bob", "a"),), []))
        never = company("ann/0a0/0/0 bob/0b0/0/0")
        self.assertEqual(self.is_told(never, [("ann", "a", 0), ("bob", "b", 0)], 0), ("stamps", (), []))

    def test_no_prices_at_all(self):
        for prices in ([], ()):
            self.assertEqual(cheapest(company("ann/0a0/0/0"), prices), ("stamps", (), []))
            word, shown = self.is_told(company(FREE), prices, 2)
            self.assertEqual((word, len(shown) > 0), ("none", True))

    def test_none_where_all_kinds_together_do_not_do(self):
        made = company("ann/0a0;0b0/0/0 bob/0a0;0b0/0/0")
        for prices in ([("ann", "a", 1), ("bob", "a", 0)], [("zoe", "a", 3)], [("ann", "c", 0), ("bob", "b", 2)]):
            for most in (0, 1, 2, 7, 100):
                self.assertEqual(self.is_told(made, prices, most)[0], "none")

    def test_most(self):
        # Without a stamp the delay is 2; of ann's a's and bob's either ones tell at once.
        made, prices = company(TURNS), [("ann", "a", 4), ("bob", "a", 3)]
        self.assertEqual(delay(made)[1], 2)
        self.assertEqual(self.is_told(made, prices, 0)[1], (("bob", "a"),))
        self.assertEqual(self.is_told(made, prices, 1)[1], (("bob", "a"),))
        for most in (2, 3, 100):
            self.assertEqual(self.is_told(made, prices, most), ("stamps", (), []))
        self.assertEqual(self.is_told(made, [], 2), ("stamps", (), []))
        self.assertEqual(self.is_told(made, [], 1)[0], "none")

    def test_most_is_nought_where_it_is_left_out(self):
        made, prices = company(TURNS), [("ann", "a", 4), ("bob", "a", 3)]
        self.assertEqual(cheapest(made, prices), cheapest(most=0, prices=prices, company=made))
        self.assertNotEqual(cheapest(made, prices), cheapest(made, prices, most=2))

    def test_delays_in_between(self):
        # By one kind the delay of 6 becomes 2, by another one 5.
        made = company("ann/0b2;2a0/2/3 bob/0b2;1a0;2a2;2b0/1/1")
        kinds = [("ann", "a"), ("ann", "b"), ("bob", "a"), ("bob", "b")]
        delays = {lot: delay(made, stamps=lot)[1] for many in (0, 1) for lot in itertools.combinations(kinds, many)}
        self.assertEqual(delays[()], 6)
        prices = [(*kind, 1 + at) for at, kind in enumerate(kinds)]
        for most in range(8):
            self.is_told(made, prices, most)
        self.assertEqual(self.is_told(made, prices, 6)[1], ())
        self.assertEqual(len(self.is_told(made, prices, 5)[1]), 1)

    def test_eight_kinds(self):
        made = company("ann/0a0;0b0;0c0;0d0/0/0 bob/0a0;0b0;0c0;0d0/0/0")
        prices = [(name, sign, price) for sign, price in zip("abcd", (1, 2, 3, 4)) for name in ("bob", "ann")]
        word, kinds, shown = self.is_told(made, prices, 0)
        self.assertEqual((word, kinds), ("stamps", tuple(("bob", sign) for sign in "abcd")))
        self.assertEqual(self.is_told(made, prices[:7], 0)[1], kinds)
        self.assertEqual(self.is_told(made, prices[:6], 0)[0], "none")

    def test_sixty_stands(self):
        made = company(SIXTY_NEVER_STILL)
        prices = [(name, sign, 1) for name in "xyz" for sign in "ab"]
        for most in (0, 3, 100):
            self.is_told(made, prices, most)

    def test_refusals(self):
        for prices in ([], [("x", "a", 1)], [("ann", "a", 0)]):
            for text in (SIXTY_ONE, MANY_AND_STILL):
                self.assertEqual(self.refused(TooMany, lambda: cheapest(company(text), prices)).most, 60)
            for text, strip in (("", ()), ("ann/-/0/0", ()), ("ann/0a1/0/0", ("a",)), ("ann/0a1;1b2/0/0", ("a", "b"))):
                refusal = self.refused(Still, lambda: cheapest(company(text), prices, most=3))
                self.assertEqual((refusal.strip, refusal.word), (strip, "Still"))

    def test_what_is_handed_in_stays(self):
        prices = [("ann", "a", 3), ("bob", "a", 2)]
        cheapest(company(FREE), prices)
        self.assertEqual(prices, [("ann", "a", 3), ("bob", "a", 2)])

    def test_told_lists_are_new_ones_and_the_same_again(self):
        for text, prices, most in ((FREE, [("ann", "a", 1)], 0), (FREE, [], 1), (TURNS, [("bob", "a", 1)], 1)):
            made = company(text)
            told, kept = cheapest(made, prices, most=most), cheapest(made, prices, most=most)
            self.assertEqual(told, kept)
            told[-1].append("odd")
            self.assertEqual(cheapest(made, prices, most=most), kept)
            self.assertEqual(cheapest(company(text), prices, most=most), kept)

    def test_against_all_lots(self):
        words = []
        for row, prices, most in small_ones(700):
            with self.subTest(row=row, prices=prices, most=most):
                told = self.is_told(Company(row), prices, most)
            words.append((told[0], len(told[1]) if told[0] == "stamps" else 0, min(len(told[-1]), 2)))
        self.assertTrue({("none", 0, 1), ("stamps", 0, 0), ("stamps", 1, 1), ("stamps", 2, 2)} <= set(words), set(words))


class Told(Checks):
    """What is told handed back, and such that was changed."""

    def each(self, many=500):
        for row, prices, most in small_ones(many):
            made = Company(row)
            told = cheapest(made, prices, most=most)
            if told[0] == "stamps":
                yield made, prices, most, told[1], told[2]

    def shows(self, made, prices, most, kinds, shown, expected):
        kept = list(shown)
        self.assertIs(is_cheapest(made, prices, kinds, shown, most=most), expected)
        self.assertEqual(shown, kept)

    def test_a_triple_out(self):
        changed = 0
        for made, prices, most, kinds, shown in self.each():
            lots = [kinds_of(prices, lot) for lot in lots_of(prices)]
            lots = [lot for lot in lots if cost_of(prices, lot) < cost_of(prices, kinds)]
            for at in range(len(shown)):
                left = shown[:at] + shown[at + 1:]
                expected = all(any(left_alike(lot, triple) for triple in left) for lot in lots)
                self.shows(made, prices, most, kinds, left, expected)
                changed += not expected
            if lots:
                self.shows(made, prices, most, kinds, [], False)
        self.assertGreater(changed, 20)

    def test_a_triple_in_twice_or_turned_about(self):
        for made, prices, most, kinds, shown in self.each():
            self.shows(made, prices, most, kinds, shown * 2, True)
            self.shows(made, prices, most, kinds, shown[::-1], True)
            about = [(strip, other, one) for strip, one, other in shown]
            self.shows(made, prices, most, kinds, about, True)
            lists = [tuple(list(row) for row in triple) for triple in shown]
            self.shows(made, prices, most, kinds, lists, True)
            for strip, one, other in shown[:2]:
                self.shows(made, prices, most, kinds, [*shown, (strip, one, one)], False)
                self.shows(made, prices, most, kinds, [*shown, (strip, one[1:], other)], False)
                self.shows(made, prices, most, kinds, [*shown, (strip[1:], one, other)], False)
                self.shows(made, prices, most, kinds, [((), (), ()), *shown], False)

    def test_a_name_or_a_sign_exchanged(self):
        changed = 0
        for made, prices, most, kinds, shown in self.each():
            for number, triple in enumerate(shown[:2]):
                for row, at in itertools.product(range(3), range(len(triple[0]))):
                    for odd in ("nobody", "", "z", "ann", "bob"):
                        rows = [list(each) for each in triple]
                        if rows[row][at] == odd or (row and odd in rows[row]):
                            continue
                        rows[row][at] = odd
                        strip, one, other = rows
                        fine = all(stands_of_row(made.writers(), strip, names) is not None for names in (one, other))
                        if not fine or one[-1 - most] == other[-1 - most]:
                            self.shows(made, prices, most, kinds, [*shown[:number], tuple(rows), *shown[number + 1:]], False)
                            self.shows(made, prices, most, kinds, [*shown, tuple(rows)], False)
                            changed += 1
        self.assertGreater(changed, 300)

    def test_tellings_that_differ_elsewhere_show_nothing(self):
        made, prices = company("ann/0a0/0/0 bob/0a0/0/0"), [("ann", "a", 1)]
        kinds, strip = (("ann", "a"),), ("a", "a")
        for one, other, most, expected in (
            (("ann", "ann"), ("ann", "bob"), 0, True), (("ann", "ann"), ("bob", "ann"), 0, False),
            (("ann", "ann"), ("bob", "ann"), 1, True), (("ann", "ann"), ("ann", "bob"), 1, False),
            (("ann", "ann"), ("bob", "bob"), 0, True), (("ann", "ann"), ("bob", "bob"), 1, True),
            (("ann", "ann"), ("bob", "bob"), 2, False), (("ann", "ann"), ("bob", "bob"), 100, False),
        ):
            self.shows(made, prices, most, kinds, [(strip, one, other)], expected)

    def test_one_that_shows_nothing_spoils_all(self):
        made, prices, kinds = company(FREE), [("ann", "a", 1)], (("ann", "a"),)
        fine = (("a",), ("ann",), ("bob",))
        self.shows(made, prices, 0, kinds, [fine], True)
        for odd in ((("a",), ("ann",), ("ann",)), (("a",), ("cy",), ("bob",)), (("b",), ("ann",), ("bob",)),
                    (("a",), (), ()), ((), (), ()), (("a", "a"), ("ann",), ("bob",))):
            self.shows(made, prices, 0, kinds, [fine, odd], False)
            self.shows(made, prices, 0, kinds, [odd, fine], False)
        # It need not be of use.
        self.shows(made, [("ann", "a", 0)], 0, kinds, [fine], True)
        self.shows(made, [("ann", "a", 0)], 0, kinds, [fine, odd], False)

    def test_a_dearer_or_a_cheaper_lot(self):
        dearer = cheaper = 0
        for made, prices, most, kinds, shown in self.each(300):
            for lot in lots_of(prices):
                other = kinds_of(prices, lot)
                if not does(made, other, most):
                    self.shows(made, prices, most, other, shown, False)
                    cheaper += 1
                else:
                    # One of the same sum is as cheap, though it be a later one.
                    as_cheap = cost_of(prices, other) == cost_of(prices, kinds)
                    self.shows(made, prices, most, other, shown, as_cheap)
                    dearer += not as_cheap
        self.assertTrue(dearer > 100 and cheaper > 100, (dearer, cheaper))

    def test_kinds_in_another_order_twice_or_none_of_the_prices(self):
        made = company("ann/0a0;0b0/0/0 bob/0a0;0b0/0/0")
        prices = [("ann", "a", 1), ("ann", "b", 1), ("zoe", "a", 0), ("bob", "b", 5)]
        word, kinds, shown = cheapest(made, prices)
        self.assertEqual(kinds, (("ann", "a"), ("ann", "b")))
        self.shows(made, prices, 0, kinds, shown, True)
        for odd in (
            kinds[::-1], kinds + kinds, kinds + kinds[1:], kinds[:1] + kinds, kinds + (("bob", "a"),),
            (("bob", "a"),) + kinds, kinds + (("zoe", "b"),), kinds + (("", ""),), (("a", "ann"),) + kinds,
            kinds[:1] + (("b", "ann"),), (("bob", "a"), ("bob", "b")), (("nobody", "z"),),
        ):
            self.shows(made, prices, 0, odd, shown, False)
        # A kind for nought more costs no more.
        self.shows(made, prices, 0, kinds + (("zoe", "a"),), shown, True)
        self.shows(made, prices, 0, (("zoe", "a"),) + kinds, shown, False)
        self.shows(made, prices, 0, kinds + (("zoe", "a"),) * 2, shown, False)

    def test_no_kinds(self):
        made = company("ann/0a0/0/0 bob/0b0/0/0")
        self.shows(made, [], 0, (), [], True)
        self.shows(made, [("ann", "a", 0)], 0, (), [], True)
        self.shows(made, [("ann", "a", 0)], 0, (("ann", "a"),), [], True)
        self.shows(made, [("ann", "a", 1)], 0, (("ann", "a"),), [], False)
        self.shows(made, [], 0, (("ann", "a"),), [], False)
        self.shows(company(FREE), [], 0, (), [], False)

    def test_most(self):
        made, prices = company(TURNS), [("ann", "a", 4), ("bob", "a", 3)]
        for most in (0, 1):
            _, kinds, shown = cheapest(made, prices, most=most)
            self.assertIs(is_cheapest(made, prices, kinds, shown, most=most), True)
            # Of so short a strip no sign stands ahead of more of them.
            self.assertEqual([len(strip) for strip, _, _ in shown], [most + 1])
            for asked in (most + 1, 2, 3, 100):
                self.assertIs(is_cheapest(made, prices, kinds, shown, most=asked), False)
        self.assertIs(is_cheapest(made, prices, (), [], most=2), True)
        self.assertIs(is_cheapest(made, prices, (), [], most=1), False)
        _, kinds, shown = cheapest(made, prices)
        self.assertIs(is_cheapest(made, prices, kinds, shown), True)
        self.assertIs(is_cheapest(most=0, shown=shown, kinds=kinds, prices=prices, company=made), True)

    def test_refusals_go_ahead(self):
        shown = [(("a",), ("x",), ("y",))]
        for prices, kinds in (([], ()), ([("x", "a", 1)], (("x", "a"),)), ([], (("odd", "odd"),))):
            for papers in ([], shown, [((), (), ())]):
                for text in (SIXTY_ONE, MANY_AND_STILL):
                    refusal = self.refused(TooMany, lambda: is_cheapest(company(text), prices, kinds, papers))
                    self.assertEqual((refusal.most, refusal.word), (60, "TooMany"))
                for text, strip in (("", ()), ("ann/0a1/0/0", ("a",)), ("ann/0a1;1b2/0/0", ("a", "b"))):
                    refusal = self.refused(Still, lambda: is_cheapest(company(text), prices, kinds, papers, most=1))
                    self.assertEqual(refusal.strip, strip)


if __name__ == "__main__":
    unittest.main()
