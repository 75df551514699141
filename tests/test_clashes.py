"""Clashes: the fewest confessions that must be let go, and what shows it."""

import unittest

from by_hand import all_names, chances, company_row, some_scroll, stands_of_row, tellings_by_hand

from whoseink.clashes import breaks, is_least, let_go
from whoseink.companies import Company
from whoseink.errors import Unwritten
from whoseink.scrolls import Scroll
from whoseink.tellings import how_many
from whoseink.writers import read_writer

ANN = read_writer("ann/0a1;1b0/2/0")
BOB = read_writer("bob/0a0/0/1")
CY = read_writer("cy/0a0;0b0/0/0")
TWO = Company([ANN, BOB])
FREE = "ann/0a0/0/0 bob/0a0/0/0"
BEGIN = ((0, 0), (0, 0), (-1, 0))
THIRTY = 10 ** 30 - 1


def scroll(text, steps, said=()):
    return Scroll(Company(company_row(text)), steps=list(steps), said=said)


def broken(said, names):
    return sum((names[at] == name) != so for at, name, so in said)


def scrolls_by_hand(many, most=4):
    """Scrolls that chance makes, with many confessions, and all their tellings without them."""
    for chance in chances(many):
        row, steps, _ = some_scroll(chance, most=most)
        if chance.random() < 0.6 and row:
            steps = [step for step in steps if isinstance(step, str)]
        signs = [step for step in steps if isinstance(step, str)]
        names = all_names(row, steps)
        said = [
            (chance.randrange(len(signs)), chance.choice(names), chance.random() < 0.5)
            for _ in range(chance.randrange(9)) if signs
        ]
        yield Scroll(Company(row), steps=steps, said=said), row, steps, said, tellings_by_hand(row, steps, [])


class Checks(unittest.TestCase):

    def unwritten(self, made, at):
        with self.assertRaises(Unwritten) as caught:
            let_go(made)
        self.assertEqual((type(caught.exception), caught.exception.at, caught.exception.word), (Unwritten, at, "Unwritten"))

    def shows(self, made, number, names, sums, expected):
        kept = [list(pairs) for pairs in sums]
        self.assertIs(is_least(made, number, names, sums), expected)
        self.assertEqual([list(pairs) for pairs in sums], kept)


class LettingGo(Checks):

    def test_by_hand(self):
        made = scroll(FREE, "a", [(0, "ann", True), (0, "bob", True), (0, "cy", False)])
        number, row, sums = let_go(made)
        self.assertEqual((number, len(row), type(row)), (1, 1, tuple))
        self.assertEqual(sums, [[(BEGIN, 0)], [(BEGIN, 1)]])
        made = scroll(FREE, "a", [(0, "ann", True), (0, "bob", True), (0, "bob", True)])
        self.assertEqual(let_go(scroll=made), (1, ("bob",), [[(BEGIN, 0)], [(BEGIN, 1)]]))
        # They write by turns.
        made = scroll("ann/0a0/0/1 bob/0a0/0/1", "aaa", [(0, "ann", True), (1, "ann", True), (2, "bob", False)])
        self.assertEqual(let_go(made)[:2], (1, ("ann", "bob", "ann")))

    def test_confessions_that_do_not_clash(self):
        for said, row in (
            ([], ("ann", "ann")), ([(0, "bob", True)], ("bob", "ann")), ([(1, "bob", True), (0, "cy", False)], ("ann", "bob")),
            ([(0, "bob", True), (1, "ann", False), (0, "bob", True)], ("bob", "bob")),
        ):
            number, names, sums = let_go(scroll(FREE, "aa", said))
            self.assertEqual((number, breaks(scroll(FREE, "aa", said), names)), (0, 0))
            self.assertEqual((type(names), len(names), len(sums)), (tuple, 2, 3))
            if said:
                self.assertEqual([names[at] for at, _, so in said if so], [row[at] for at, _, so in said if so])

    def test_names_that_nobody_bears(self):
        made = scroll(FREE, "aa", [(0, "cy", True), (0, "zoe", True), (0, "cy", False), (1, "zoe", False)])
        number, row, sums = let_go(made)
        self.assertEqual(number, 2)
        self.assertEqual([[least for _, least in pairs] for pairs in sums], [[0], [2], [2]])
        self.shows(made, 2, row, sums, True)

    def test_several_of_one_sign(self):
        said = [(0, "ann", True)] * 3 + [(0, "bob", True)] * 2 + [(0, "ann", False)] * 4
        self.assertEqual(let_go(scroll(FREE, "a", said))[:2], (3, ("bob",)))
        self.assertEqual(let_go(scroll("ann/0a0/0/0", "a", said))[:2], (6, ("ann",)))

    def test_no_signs(self):
        for made, stand in ((scroll(FREE, []), BEGIN), (scroll("", []), ((), (), (-1, 0)))):
            self.assertEqual(let_go(made), (0, (), [[(stand, 0)]]))
            self.shows(made, 0, (), [[(stand, 0)]], True)
            self.shows(made, 0, [], [[(stand, 0)]], True)
            self.shows(made, 1, (), [[(stand, 1)]], False)
        made = Scroll(TWO, steps=[[CY], [BOB]])
        self.assertEqual(let_go(made), (0, (), [[(((0,), (0,), (-1, 0)), 0)]]))

    def test_unwritten(self):
        for steps, at in (("b", 0), ("ab", None), ("abb", 2), ("abbb", 2), ("z", 0), ("aaaaz", 3), (["a", [], "a"], 1),
                          (["a", [BOB], "a", "b", "z"], 2), ([[], "a"], 0)):
            for said in ([], [(0, "ann", True)], [(0, "zoe", True), (0, "bob", True)]):
                made = Scroll(TWO, steps=list(steps), said=said)
                if at is None:
                    self.assertEqual(len(let_go(made)[1]), len(made))
                else:
                    self.unwritten(made, at)

    def test_companies_between_signs(self):
        steps = ["a", [CY], "b", "a", [BOB, CY], "a", []]
        said = [(1, "ann", True), (3, "bob", True), (3, "cy", True), (0, "cy", False), (2, "cy", False)]
        made = Scroll(TWO, steps=steps, said=said)
        number, row, sums = let_go(made)
        self.assertEqual((number, row[1:3], len(sums)), (3, ("cy", "cy"), 5))
        self.assertEqual(sums[-1], [(((), (), (-1, 0)), 3)])
        self.shows(made, number, row, sums, True)

    def test_twenty_four_signs_and_confessions(self):
        said = [(at, name, True) for at in range(12) for name in ("ann", "cy")]
        number, row, sums = let_go(scroll("ann/0a0/0/2 bob/0a0/0/0 cy/0a0/2/0", "a" * 24, said))
        self.assertEqual((number, len(row), len(sums)), (12, 24, 25))
        self.shows(scroll("ann/0a0/0/2 bob/0a0/0/0 cy/0a0/2/0", "a" * 24, said), number, row, sums, True)

    def test_the_same_asked_again_and_told_lists_are_new_ones(self):
        said = [(0, "ann", True), (0, "bob", True), (1, "bob", True)]
        made = scroll(FREE, "aaa", said)
        told, kept = let_go(made), let_go(scroll(FREE, "aaa", said))
        self.assertEqual(told, kept)
        for pairs in told[2]:
            pairs.append("odd")
        told[2].reverse()
        self.assertEqual(let_go(made), kept)
        self.assertEqual((made.said(), made.signs()), (said, ["a"] * 3))

    def test_against_all_rows_of_names(self):
        numbers, clashes = [], 0
        for made, row, steps, said, tellings in scrolls_by_hand(500):
            with self.subTest(row=row, steps=steps, said=said):
                if not tellings:
                    signs = [at for at in range(len(made)) if not tellings_by_hand(row, cut(steps, at + 1), [])]
                    self.unwritten(made, signs[0])
                    continue
                number, names, sums = let_go(made)
                self.assertEqual(number, min(broken(said, each) for each in tellings))
                self.assertIn(names, tellings)
                self.assertEqual((breaks(made, names), breaks(made, list(names))), (number, number))
                self.sums_hold(made, row, steps, said, tellings, sums)
                self.shows(made, number, names, sums, True)
                self.assertEqual(number == 0, how_many(made) > 0)
                numbers.append(number)
                clashes += how_many(made) == 0
        self.assertTrue({0, 1, 2, 3, 4} <= set(numbers), set(numbers))
        self.assertGreater(clashes, 100)

    def sums_hold(self, made, row, steps, said, tellings, sums):
        """No row of names breaks fewer on its way to a stand than the sums tell."""
        self.assertEqual([type(each) for each in (sums, *sums)], [list] * (len(made) + 2))
        tables = [dict(pairs) for pairs in sums]
        self.assertEqual([len(table) for table in tables], [len(pairs) for pairs in sums])
        for names in tellings:
            for at, stand in enumerate(stands_of_row(row, steps, names)):
                ahead = [each for each in said if each[0] < at]
                self.assertLessEqual(tables[at][stand], broken(ahead, names))
        self.assertTrue(all(type(pair) is tuple for pairs in sums for pair in pairs))


def cut(steps, many):
    """The steps up to so many signs."""
    kept = []
    for step in steps:
        if len([each for each in kept if isinstance(each, str)]) == many:
            break
        kept.append(step)
    return kept


class Breaking(Checks):

    def test_by_hand(self):
        said = [(0, "ann", True), (0, "bob", False), (1, "ann", False), (1, "cy", True), (1, "cy", True)]
        made = scroll(FREE, "aa", said)
        for names, expected in (
            (("ann", "bob"), 2), (("ann", "ann"), 3), (("bob", "cy"), 2), (("zoe", "cy"), 1), (("ann", "cy"), 0),
            (("", "Odd"), 3), (("bob", "ann"), 5),
        ):
            self.assertEqual((breaks(made, names), breaks(made, list(names))), (expected, expected))
        self.assertEqual(breaks(names=("ann", "cy"), scroll=made), 0)

    def test_rows_that_are_no_tellings(self):
        # It counts of any row of as many texts.
        self.assertEqual(breaks(scroll("", "a", [(0, "ann", True)]), ["ann"]), 0)
        self.assertEqual(breaks(scroll("", "a", [(0, "ann", True)]), ["bob"]), 1)
        self.assertEqual(breaks(scroll("", []), []), 0)

    def test_against_counting(self):
        for chance, (made, row, steps, said, _) in zip(chances(200), scrolls_by_hand(200)):
            names = [chance.choice(all_names(row, steps)) for _ in range(len(made))]
            kept = list(names)
            self.assertEqual(breaks(made, names), broken(said, names))
            self.assertEqual((names, made.said()), (kept, said))


class Told(Checks):
    """What is told handed back, and such that was changed."""

    def each(self, many=400):
        for made, _, _, _, tellings in scrolls_by_hand(many, most=3):
            if tellings:
                yield made, tellings, *let_go(made)

    def test_turned_about_and_as_lists(self):
        for made, _, number, names, sums in self.each():
            self.shows(made, number, list(names), [pairs[::-1] for pairs in sums], True)
        self.assertIs(is_least(sums=sums, names=names, number=number, scroll=made), True)
        self.assertIs(is_least(made, number, names, tuple(tuple(pairs) for pairs in sums)), True)

    def test_a_pair_out(self):
        changed = 0
        for made, _, number, names, sums in self.each():
            for at, pairs in enumerate(sums):
                for place in range(len(pairs)):
                    left = pairs[:place] + pairs[place + 1:]
                    # Each of the stands is met on some way.
                    self.shows(made, number, names, sums[:at] + [left] + sums[at + 1:], False)
                    changed += 1
        self.assertGreater(changed, 300)

    def test_a_stand_twice(self):
        for made, _, number, names, sums in self.each():
            for at, pairs in enumerate(sums):
                for more in (0, 1, -1):
                    stand, least = pairs[-1]
                    self.shows(made, number, names, sums[:at] + [[*pairs, (stand, least + more)]] + sums[at + 1:], False)
                    self.shows(made, number, names, sums[:at] + [[(stand, least + more), *pairs]] + sums[at + 1:], False)

    def test_a_number_one_more_or_less(self):
        for made, _, number, names, sums in self.each():
            for more in (-1, 1, THIRTY, -THIRTY):
                self.shows(made, number + more, names, sums, False)
                raised = [[(stand, least + more) for stand, least in pairs] for pairs in sums]
                self.shows(made, number + more, names, raised, False)
                self.shows(made, number, names, raised, False)
                self.shows(made, number, names, sums[:1] + raised[1:], len(sums) == 1)
                last = [[(stand, least + more) for stand, least in sums[-1]]]
                self.shows(made, number, names, sums[:-1] + last, False)

    def test_each_number_of_a_pair(self):
        changed = 0
        for made, _, number, names, sums in self.each():
            for at, pairs in enumerate(sums):
                for place, (stand, least) in enumerate(pairs):
                    # The told ones are the greatest that hold; a lesser one tells less.
                    more = pairs[:place] + [(stand, least + 1)] + pairs[place + 1:]
                    self.shows(made, number, names, sums[:at] + [more] + sums[at + 1:], False)
                    less = pairs[:place] + [(stand, least - 1)] + pairs[place + 1:]
                    fewer = sums[:at] + [less] + sums[at + 1:]
                    if at == 0:
                        self.shows(made, number, names, fewer, False)
                    elif at == len(made):
                        self.shows(made, number, names, fewer, least - 1 >= number)
                    changed += 1
        self.assertGreater(changed, 300)

    def test_a_list_out_or_more(self):
        for made, _, number, names, sums in self.each(60):
            for at in range(len(sums)):
                self.shows(made, number, names, sums[:at] + sums[at + 1:], False)
                self.shows(made, number, names, sums[:at] + [list(sums[at])] + sums[at:], False)
            self.shows(made, number, names, sums + [[]], False)
            self.shows(made, number, names, [[]] + sums, False)
            self.shows(made, number, names, [], False)
            self.shows(made, number, names, [[] for _ in sums], False)

    def test_pairs_that_nothing_leads_to(self):
        made = scroll(FREE, "aa", [(0, "ann", True), (0, "bob", True)])
        number, names, sums = let_go(made)
        other = ((1, 1), (0, 0), (-1, 0))
        self.assertEqual((number, sums), (1, [[(BEGIN, 0)], [(BEGIN, 1)], [(BEGIN, 1)]]))
        # At the other stand nobody can write.
        self.shows(made, 1, names, [sums[0], [(other, -9), *sums[1]], sums[2]], True)
        self.shows(made, 1, names, [[(other, 7), *sums[0]], sums[1], sums[2]], True)
        self.shows(made, 1, names, [sums[0], sums[1], [*sums[2], (other, 1)]], True)
        self.shows(made, 1, names, [sums[0], sums[1], [*sums[2], (other, 0)]], False)
        # Where just ann is elsewhere, bob's step leads on to such a stand.
        half = ((1, 0), (0, 0), (-1, 0))
        self.shows(made, 1, names, [sums[0], [*sums[1], (half, 1)], sums[2]], False)
        self.shows(made, 1, names, [sums[0], [*sums[1], (half, 1)], [*sums[2], (half, 1)]], True)
        self.shows(made, 1, names, [sums[0], [*sums[1], (half, 1)], [*sums[2], (half, 2)]], False)
        self.shows(made, 1, names, [[(half, 0)], sums[1], sums[2]], False)

    def test_stands_of_another_count_of_writers(self):
        made = scroll(FREE, "aa", [(0, "ann", True), (0, "bob", True)])
        number, names, sums = let_go(made)
        for odd in (((), (), (-1, 0)), ((0,), (0,), (-1, 0)), ((0,) * 3, (0,) * 3, (-1, 0))):
            for at in (0, 1):
                self.shows(made, number, names, sums[:at] + [[(odd, 0), *sums[at]]] + sums[at + 1:], False)

    def test_the_row(self):
        changed = 0
        for made, tellings, number, names, sums in self.each():
            for other in tellings:
                self.shows(made, number, other, sums, breaks(made, other) == number)
                self.shows(made, breaks(made, other), other, sums, breaks(made, other) == number)
                changed += breaks(made, other) != number
            for at in range(len(names)):
                for odd in ("nobody", "", "Ann"):
                    self.shows(made, number, (*names[:at], odd, *names[at + 1:]), sums, False)
            for odd in (names[1:], names[:-1], names + names, (*names, "ann")):
                if len(odd) != len(names):
                    self.shows(made, number, odd, sums, False)
        self.assertGreater(changed, 60)

    def test_no_telling_without_the_confessions(self):
        made = scroll(FREE, "ab", [(0, "ann", True)])
        for row in (("ann", "bob"), ("ann", "ann"), (), ("ann",)):
            for sums in ([[(BEGIN, 0)], [(BEGIN, 0)], []], [[], [], []], []):
                self.shows(made, 0, row, sums, False)

    def test_whichever_name_writes_leads_on(self):
        # The confession bars bob; all the same his step leads on, with one broken.
        made = Scroll(TWO, steps=["a"], said=[(0, "ann", True)])
        number, names, sums = let_go(made)
        anns, bobs = ((1, 0), (0, 0), (-1, 0)), ((0, 0), (1, 0), (1, 1))
        self.assertEqual((number, names, sums), (0, ("ann",), [[(BEGIN, 0)], [(bobs, 1), (anns, 0)]]))
        self.shows(made, 0, names, [[(BEGIN, 0)], [(anns, 0)]], False)
        self.shows(made, 0, names, [[(BEGIN, 0)], [(bobs, 0), (anns, 0)]], True)
        self.shows(made, 0, names, [[(BEGIN, 0)], [(bobs, 2), (anns, 0)]], False)


if __name__ == "__main__":
    unittest.main()
