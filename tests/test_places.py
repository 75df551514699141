"""Places: the fewest signs of which it must be asked who wrote them, and what shows it."""

import itertools
import unittest

from by_hand import all_names, chances, company_row, some_scroll, some_writer, tellings_by_hand

from whoseink.companies import Company
from whoseink.errors import NoSign, TooMany
from whoseink.places import MOST_PLACES, fewest, is_fewest, tells_all
from whoseink.scrolls import Scroll
from whoseink.tellings import how_many
from whoseink.writers import read_writer

ANN = read_writer("ann/0a1;1b0/2/0")
BOB = read_writer("bob/0a0/0/1")
CY = read_writer("cy/0a0;0b0/0/0")
FREE = "ann/0a0/0/0 bob/0a0/0/0"
THIRTY = 10 ** 30 - 1


def scroll(text, steps, said=()):
    return Scroll(Company(company_row(text)), steps=list(steps), said=said)


def lots_of(many, most):
    """All lots of at most so many of the signs, the lesser and the first ones ahead."""
    return [lot for size in range(most + 1) for lot in itertools.combinations(range(many), size)]


def agree(one, other, lot):
    return all(one[at] == other[at] for at in lot)


def tells_by_hand(tellings, lot):
    return len({tuple(names[at] for at in lot) for names in tellings}) == len(tellings)


def fewest_by_hand(tellings, many):
    for lot in lots_of(many, many):
        if tells_by_hand(tellings, lot):
            return lot


def scrolls_by_hand(many, most=5):
    """Scrolls that chance makes, of companies that come between signs, with all their tellings."""
    for chance in chances(many):
        row, steps, said = some_scroll(chance, most=most)
        if chance.random() < 0.5:
            row = [some_writer(chance, name, density=0.9) for name in ("ann", "bob", "cy")]
            steps = [step for step in steps if isinstance(step, str)]
        yield Scroll(Company(row), steps=steps, said=said), tellings_by_hand(row, steps, said)


class Checks(unittest.TestCase):

    def refused(self, kind, ask):
        with self.assertRaises(kind) as caught:
            ask()
        self.assertIs(type(caught.exception), kind)
        return caught.exception

    def is_told(self, made, tellings):
        """Asks for the fewest, and holds what is told against all tellings."""
        told = fewest(made)
        lot, pairs = told
        self.assertEqual((type(told), type(lot), type(pairs)), (tuple, tuple, list))
        self.assertEqual(lot, fewest_by_hand(tellings, len(made)))
        for pair in pairs:
            self.assertEqual((type(pair), [type(names) for names in pair]), (tuple, [tuple, tuple]))
            self.assertTrue(pair[0] != pair[1] and pair[0] in tellings and pair[1] in tellings)
        if lot:
            for lesser in lots_of(len(made), len(lot) - 1):
                self.assertTrue(any(agree(*pair, lesser) for pair in pairs), lesser)
        else:
            self.assertEqual(pairs, [])
        self.assertIs(tells_all(made, lot), True)
        self.assertIs(is_fewest(made, lot, pairs), True)
        return told


class Fewest(Checks):

    def test_bound(self):
        self.assertEqual(MOST_PLACES, 8)

    def test_by_hand(self):
        self.assertEqual(fewest(scroll(FREE, "a")), ((0,), [(("ann",), ("bob",))]))
        lot, pairs = fewest(scroll(FREE, "aa"))
        self.assertEqual((lot, len(pairs)), ((0, 1), 2))
        # They write by turns: of one sign it is known of all, and of these the first is told.
        self.assertEqual(fewest(scroll("ann/0a0/0/1 bob/0a0/0/1", "aaaaa"))[0], (0,))
        # Who wrote the first sign is known; of the others it is enough to ask for one.
        self.assertEqual(fewest(scroll("ann/0b1;1a1/0/1 bob/0a0/0/1", "baaa"))[0], ())
        self.assertEqual(fewest(scroll("ann/0a0;0b0/0/0 bob/0a0/0/0", "bab"))[0], (1,))
        self.assertEqual(fewest(scroll=scroll(FREE, "a"))[0], (0,))

    def test_no_telling_and_just_one(self):
        for made in (
            scroll("", "a"), scroll(FREE, "ab"), scroll(FREE, "a", [(0, "cy", True)]), scroll("ann/0a0/0/0", "aaa"),
            scroll(FREE, "aa", [(0, "ann", True), (1, "bob", True)]), scroll("ann/0a0/0/0 bob/0b0/0/0", "abababab"),
        ):
            self.assertEqual(fewest(made), ((), []))
            self.assertIs(is_fewest(made, (), []), True)
            self.assertIs(tells_all(made, ()), True)

    def test_no_signs(self):
        for made in (scroll("", []), scroll(FREE, []), scroll(FREE, [[CY], [ANN]])):
            self.assertEqual(fewest(made), ((), []))
            self.assertIs(tells_all(made, ()), True)
            self.assertIs(is_fewest(made, (), []), True)
            self.assertEqual(self.refused(NoSign, lambda: tells_all(made, (0,))).at, 0)

    def test_the_first_of_several(self):
        # They write by turns: each of the signs would do.
        made = scroll("ann/0a0;0b0/0/1 bob/0a0;0b0/0/1", "baa")
        pairs = fewest(made)[1]
        self.assertEqual((how_many(made), fewest(made)[0]), (2, (0,)))
        for at in range(3):
            self.assertIs(is_fewest(made, (at,), pairs), True)
        made = scroll("ann/0a0;0c0/0/1 bob/0a0;0b0/0/1 cy/0c0/0/0", "caa")
        self.assertEqual(fewest(made)[0], (0, 1))
        self.assertIs(is_fewest(made, (0, 2), fewest(made)[1]), True)
        self.assertIs(is_fewest(made, (1, 2), fewest(made)[1]), tells_all(made, (1, 2)))

    def test_eight_signs_and_nine(self):
        made = scroll(FREE + " cy/0a0/0/0", "a" * 8)
        lot, pairs = fewest(made)
        self.assertEqual((lot, how_many(made)), (tuple(range(8)), 6561))
        self.assertEqual(len(pairs), 8)
        self.assertIs(is_fewest(made, lot, pairs), True)
        self.assertIs(is_fewest(made, lot, pairs[1:]), False)
        for made in (scroll(FREE, "a" * 9), scroll(FREE, "a" * 24), scroll("", "a" * 9), scroll("ann/0a0/0/0", "a" * 9)):
            self.assertEqual(self.refused(TooMany, lambda: fewest(made)).most, 8)
            refusal = self.refused(TooMany, lambda: is_fewest(made, (0,), []))
            self.assertEqual((refusal.most, refusal.word), (8, "TooMany"))

    def test_companies_between_signs(self):
        made = Scroll(Company([ANN, BOB]), steps=["a", [CY], "b", "a", [BOB, CY], "a", []])
        self.assertEqual(self.is_told(made, tellings_by_hand([ANN, BOB], ["a", [CY], "b", "a", [BOB, CY], "a", []], []))[0],
                         (0, 3))

    def test_confessions(self):
        for said, lot in (
            ([], (0, 1, 2)), ([(0, "ann", True)], (1, 2)), ([(1, "ann", False)], (0, 2)), ([(2, "cy", False)], (0, 1, 2)),
            ([(0, "bob", True), (2, "bob", False)], (1,)),
        ):
            self.assertEqual(fewest(scroll(FREE, "aaa", said))[0], lot)

    def test_the_same_asked_again_and_told_lists_are_new_ones(self):
        made = scroll(FREE + " cy/0a0/2/2", "aaaa")
        told, kept = fewest(made), fewest(made)
        self.assertEqual(told, kept)
        told[1].append("odd")
        told[1].reverse()
        self.assertEqual(fewest(made), kept)
        self.assertEqual(fewest(scroll(FREE + " cy/0a0/2/2", "aaaa")), kept)

    def test_against_all_tellings(self):
        sizes = []
        for made, tellings in scrolls_by_hand(500):
            with self.subTest(company=str(made.company(0)), signs=made.signs(), said=made.said()):
                sizes.append(len(self.is_told(made, tellings)[0]))
        self.assertTrue({0, 1, 2, 3, 4} <= set(sizes), set(sizes))


class TellsAll(Checks):

    def test_against_all_tellings(self):
        told = []
        for made, tellings in scrolls_by_hand(250, most=4):
            for lot in lots_of(len(made), len(made)):
                with self.subTest(company=str(made.company(0)), signs=made.signs(), said=made.said(), lot=lot):
                    told.append(tells_all(made, lot))
                    self.assertIs(told[-1], tells_by_hand(tellings, lot))
        self.assertTrue(told.count(True) > 300 and told.count(False) > 300)

    def test_no_sign_tells_the_first(self):
        for steps in ([], "a", "aaa"):
            made = scroll(FREE, steps)
            many = len(made)
            for odd in (-1, -2, many, many + 1, THIRTY, -THIRTY):
                for lot in ((odd,), (*range(many), odd), (odd, *range(many)), (odd, -9, many + 9)):
                    self.assertEqual(self.refused(NoSign, lambda: tells_all(made, lot)).at, odd)
                    self.assertEqual(self.refused(NoSign, lambda: is_fewest(made, lot, [])).at, odd)
                    self.assertEqual(self.refused(NoSign, lambda: is_fewest(made, lot, [((), ())])).at, odd)

    def test_more_than_eight_signs(self):
        made = scroll("ann/0a0/0/1 bob/0a0/0/1", "a" * 24)
        for at in range(24):
            self.assertIs(tells_all(made, (at,)), True)
        self.assertIs(tells_all(made, ()), False)
        free = scroll(FREE + " cy/0a0/0/0", "a" * 24)
        self.assertIs(tells_all(free, tuple(range(24))), True)
        for at in range(24):
            self.assertIs(tells_all(free, tuple(each for each in range(24) if each != at)), False)
        self.assertIs(tells_all(lot=(0,), scroll=scroll("", "a" * 24)), True)

    def test_two_that_meet_again(self):
        # Ann writes the first sign and bob the second, or the other way about; nothing behind tells of it.
        row = company_row("ann/0a1;1c1/0/0 bob/0a1;1c1/0/0")
        made = scroll("ann/0a1;1c1/0/0 bob/0a1;1c1/0/0", "aac", [(2, "bob", False)])
        tellings = tellings_by_hand(row, ["a", "a", "c"], [(2, "bob", False)])
        self.assertEqual(tellings, [("ann", "bob", "ann"), ("bob", "ann", "ann")])
        for lot in lots_of(3, 3):
            self.assertIs(tells_all(made, lot), lot not in ((), (2,)))


class Told(Checks):
    """What is told handed back, and such that was changed."""

    def each(self, many=300):
        for made, tellings in scrolls_by_hand(many, most=4):
            lot, pairs = fewest(made)
            if pairs:
                yield made, tellings, lot, pairs

    def shows(self, made, lot, pairs, expected):
        kept = list(pairs)
        self.assertIs(is_fewest(made, lot, pairs), expected)
        self.assertEqual(pairs, kept)

    def test_turned_about_twice_and_as_lists(self):
        for made, tellings, lot, pairs in self.each():
            self.shows(made, lot, pairs[::-1], True)
            self.shows(made, lot, pairs * 2, True)
            self.shows(made, lot, [(other, one) for one, other in pairs], True)
            self.shows(made, lot, [(list(one), list(other)) for one, other in pairs], True)
            self.shows(made, lot, [[list(one), other] for one, other in pairs], True)
            self.shows(made, lot, [*pairs, (tellings[0], tellings[-1])], True)
        self.assertIs(is_fewest(pairs=pairs, lot=lot, scroll=made), True)

    def test_a_pair_out(self):
        changed = 0
        for made, _, lot, pairs in self.each():
            self.shows(made, lot, [], False)
            for at in range(len(pairs)):
                left = pairs[:at] + pairs[at + 1:]
                lesser = lots_of(len(made), len(lot) - 1)
                expected = all(any(agree(*pair, each) for pair in left) for each in lesser)
                self.shows(made, lot, left, expected)
                changed += not expected
        self.assertGreater(changed, 100)

    def test_a_pair_that_is_not_two_unlike_tellings(self):
        for made, tellings, lot, pairs in self.each(150):
            one, other = pairs[0]
            rows = [row for row in itertools.product(all_names(made.company(0).writers(), []), repeat=len(made))]
            odd = [row for row in rows if row not in tellings][:3]
            for pair in ((one, one), (one, list(one)), (one, one[:-1]), ((), ()), (one, ()), (one, other * 2),
                         *[(one, row) for row in odd], *[(row, other) for row in odd]):
                self.shows(made, lot, [*pairs, pair], False)
                self.shows(made, lot, [pair, *pairs], False)
                self.shows(made, lot, [pair], False)
        self.shows(scroll(FREE, []), (), [((), ())], False)
        self.shows(scroll("ann/0a0/0/0", "a"), (), [(("ann",), ("ann",))], False)

    def test_a_lot_larger_than_it_must_be_or_that_does_not_tell_all(self):
        larger = others = 0
        for made, tellings, lot, pairs in self.each():
            for other in lots_of(len(made), len(made)):
                expected = len(other) == len(lot) and tells_by_hand(tellings, other)
                if len(other) <= len(lot):
                    self.shows(made, other, pairs, expected)
                    others += expected
                else:
                    # No pairs at all show what isn't so.
                    every = list(itertools.combinations(tellings[:24], 2))
                    self.shows(made, other, every, False)
                    larger += 1
        self.assertTrue(larger > 100 and others > 50, (larger, others))

    def test_a_lot_that_does_not_rise(self):
        made = scroll(FREE, "aa")
        lot, pairs = fewest(made)
        for odd in ((1, 0), (0, 0), (0, 1, 1), (0, 0, 1), (1, 0, 1)):
            self.shows(made, odd, pairs, False)

    def test_two_of_one_pair_must_agree(self):
        # The first names of the two pairs agree at the first sign; neither pair's two do.
        made = scroll(FREE, "aa")
        pairs = [(("ann", "ann"), ("bob", "bob")), (("ann", "bob"), ("bob", "ann"))]
        self.shows(made, (0, 1), pairs, False)
        self.shows(made, (0, 1), [(("ann", "ann"), ("ann", "bob")), (("ann", "ann"), ("bob", "ann"))], True)

    def test_refusals_in_their_order(self):
        made = scroll(FREE, "a" * 9)
        for lot in ((9,), (0, 1, 9), (-1,), (0, THIRTY)):
            at = [each for each in lot if not 0 <= each < 9][0]
            self.assertEqual(self.refused(NoSign, lambda: is_fewest(made, lot, [])).at, at)
        for lot in ((), (0,), (8,), tuple(range(9)), (1, 0)):
            self.assertEqual(self.refused(TooMany, lambda: is_fewest(made, lot, [((), ())])).most, 8)


if __name__ == "__main__":
    unittest.main()
