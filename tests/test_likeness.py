"""Likeness: whether two companies leave the same strips, and what shows it."""

import itertools
import unittest

from by_hand import chances, company_row, some_company, some_writer, stands_of_row

from whoseink.companies import Company
from whoseink.errors import TooMany
from whoseink.likeness import is_same, likeness

SIXTY_NEVER_STILL = "x/0a0;2a1/3/3 y/0b1;1b2;2b2/0/1 z/0b1;1a0/2/3"
SIXTY_ONE = "x/0a1;1a2/1/0 y/0a2;1a0;2a1/2/3 z/0a2;0b0;2a1;2b1/0/1"
# Both leave the same strips, which lead to just so many pairs.
SAME_600 = (
    "x/0a2;0b2;1a0;1b0;2a1;2b0/1/3 y/0b1;1a0;1b1;2b2/0/0 z/0b0;1a0;1b1;2b2/3/1",
    "x/0a2;0b2;1a0;1b0;2a1;2b0/1/3 y/0b1;1a0;1b1;2b2/0/1 z/0b0;1a0;1b1;2b2/3/1",
)
SAME_601 = (
    "x/0a1;0b2;1a2;1b0;2a1;2b0/3/0 y/0a2;0b0;1a2;1b2;2a1;2b0/1/1 z/0a1;0b1;1a1;2a0;2b0/0/0",
    "x/0a1;0b2;1a2;1b0;2a1;2b0/0/0 y/0a2;0b0;1a2;1b2;2a1;2b0/1/1 z/0a1;0b1;1a1;2a0;2b0/0/0",
)
# Strips of up to 12 signs lead to 601 pairs.
THROUGH_601 = (
    "x/0a2;0b2;1a2;1b2;2a1;2b1/0/1 y/0a0;0b2;1b0;2b1/1/0 z/0b1;1a1;1b0;2a2;2b1/0/0",
    "x/0a2;0b2;1a2;1b2;2a1;2b1/0/1 y/0a0;0b2;1b0;2b1/1/0 z/0b1;1a1;1b0;2a2;2b1/0/1",
)
# No strip of up to 9 signs parts them, and these lead to 827 pairs; a longer one does.
PARTED_LATER = (
    "x/0a2;0b1;1a2;1b0/0/0 y/0a0;0b2;1a1;1b1;2a1/3/3 z/0a0;0b0;1b0;2a2;2b1/0/0",
    "x/0a2;0b1;1a2;1b0/0/0 y/0a0;0b2;1a1;1b1;2a1/3/3 z/0a0;0b0;1b0;2a2;2b1/1/0",
)
# Strips of up to 9 signs lead to 432 pairs, one more sign to 612; one of these parts them.
PARTED_BEYOND = (
    "x/0b2;1a2;1b1;2a2;2b2/0/1 y/0a1;0b0;1a2;2a1/3/1 z/0b2;2a2;2b2/2/2",
    "x/0b2;1a2;1b1;2b2/0/1 y/0a1;0b0;1a2;2a1/3/1 z/0b2;2a2;2b2/2/2",
)
PARTED_AT_26 = (
    "x/0b0;1b1;2b2/0/0 y/0a2;0b1;1a1;1b2;2b1/0/1 z/0a0;0b2;1a2;2a1;2b1/3/0",
    "x/0b0;1b1;2b2/0/1 y/0a2;0b1;1a1;1b2;2b1/0/1 z/0a0;0b2;1a2;2a1;2b1/3/0",
)


def company(text):
    return Company(company_row(text))


def both(texts):
    return tuple(company(text) for text in texts)


def strips_of(row, most):
    """The strips of at most so many signs that whole histories leave, the rows of names by each."""
    found = {(): [()]}
    level = dict(found)
    for _ in range(most):
        behind = {}
        for strip, rows in level.items():
            for sign, writer, names in itertools.product("abc", row, rows):
                longer, more = (*strip, sign), (*names, writer[0])
                if stands_of_row(row, longer, more) is not None:
                    behind.setdefault(longer, []).append(more)
        level = behind
        found.update(level)
    return found


def lots_of(row, strip):
    """The rising lot of stands at which the strip may end."""
    rows = strips_of(row, len(strip)).get(strip, [])
    return sorted({stands_of_row(row, strip, names)[-1] for names in rows})


def pairs_of_companies(many):
    """Pairs of rows of writers that chance makes, of which some leave the same strips."""
    for chance in chances(many):
        row = some_company(chance, most=2, density=0.4)
        other = list(row)
        way = chance.randrange(6)
        if way == 0 or not row:
            other = some_company(chance, most=2, density=0.4)
        elif way == 1:
            other.reverse()
        elif way == 2:
            other = [(name, *writer[1:]) for name, writer in zip(("zoe", "yan", "xi"), row)]
        else:
            at = chance.randrange(len(row))
            name, arrows, patience, cap = row[at]
            if way == 3:
                arrows = tuple(arrow for arrow in arrows if chance.random() < 0.8)
            elif way == 4:
                patience = (patience + 1) % 4
            else:
                cap = (cap + 1) % 4
            other[at] = (name, arrows, patience, cap)
        yield row, other


class Checks(unittest.TestCase):

    def too_many(self, most, texts):
        for one, other in itertools.permutations(texts):
            with self.assertRaises(TooMany) as caught:
                likeness(company(one), company(other))
            self.assertEqual((type(caught.exception), caught.exception.most), (TooMany, most))

    def is_told_same(self, one, other):
        told = likeness(one, other)
        self.assertEqual((type(told), len(told), told[0], type(told[1])), (tuple, 2, "same", list))
        for pair in told[1]:
            self.assertEqual((type(pair), [type(lot) for lot in pair]), (tuple, [list, list]))
            self.assertTrue(all(lot and lot == sorted(set(lot)) for lot in pair))
        self.assertIs(is_same(one, other, told[1]), True)
        return told[1]

    def is_told_parted(self, one, other, length):
        word, strip = likeness(one, other)
        self.assertEqual((word, type(strip), len(strip)), ("parted", tuple, length))
        self.assertNotEqual(one.leaves(strip), other.leaves(strip))
        self.assertEqual(one.leaves(strip[:-1]), other.leaves(strip[:-1]))
        return strip


class Likeness(Checks):

    def test_by_hand(self):
        begin = ((0,), (0,), (-1, 0))
        ann, bob = company("ann/0a0/0/0"), company("bob/0a0/0/0")
        self.assertEqual(likeness(ann, bob), ("same", [([begin], [begin])]))
        self.assertEqual(likeness(other=bob, one=ann), ("same", [([begin], [begin])]))
        two = company("ann/0a0/0/0 bob/0a0/0/0")
        self.assertEqual(likeness(ann, two), ("same", [([begin], [two.begin()])]))
        self.assertEqual(likeness(two, ann), ("same", [([two.begin()], [begin])]))
        self.assertEqual(likeness(ann, company("ann/0a1/0/0")), ("parted", ("a", "a")))
        self.assertEqual(likeness(ann, company("ann/0a0;0b0/0/0")), ("parted", ("b",)))
        self.assertEqual(likeness(company("ann/0a1;1b2/0/0"), company("x/0a1;1b2;2c0/0/0")), ("parted", ("a", "b", "c")))

    def test_pairs_of_lots(self):
        # Behind an a, it may be either one's; both lots go on by it for ever.
        one, other = company("ann/0a1;1a1/0/0 bob/0a0/0/0"), company("x/0a0/0/0")
        begin, later = one.begin(), ((1, 0), (0, 0), (-1, 0))
        alone = other.begin()
        expected = [([begin], [alone]), ([begin, later], [alone])]
        self.assertEqual(likeness(one, other), ("same", expected))
        self.assertEqual(likeness(other, one), ("same", [pair[::-1] for pair in expected]))

    def test_a_company_with_itself(self):
        for text in ("", "ann/-/0/0", "ann/0a1/0/0", "ann/0a1;1b0/2/0 bob/0a0/0/1", SIXTY_NEVER_STILL):
            made = company(text)
            for ours, theirs in self.is_told_same(made, made):
                self.assertEqual(ours, theirs)
            self.assertEqual(likeness(made, made), likeness(company(text), company(text)))

    def test_other_order_and_other_names(self):
        row = company_row("ann/0a1;1b0/2/0 bob/0a0/0/1 cy/0b2;2a0/3/0")
        made = Company(row)
        for turned in itertools.permutations(row):
            self.is_told_same(made, Company(turned))
            self.is_told_same(made, Company([(name, *writer[1:]) for name, writer in zip(("q", "a", "zz"), turned)]))

    def test_one_thing_more(self):
        row = company_row("ann/0a1;1b0/2/0 bob/0a0/0/1")
        made = Company(row)
        for other, strip in (
            ("ann/0a1;1b0;1c0/2/0 bob/0a0/0/1", ("a", "c")),
            ("ann/0a1;1b0/0/0 bob/0a0/0/1", None), ("ann/0a1;1b0/1/0 bob/0a0/0/1", None),
            ("ann/0a1;1b0/2/0 bob/0a0/1/1", ("a", "b")), ("ann/0a1;1b0/2/0 bob/0a0/0/2", ("a",) * 4),
            ("ann/0a1;1b0/2/1 bob/0a0/0/1", ("a", "b")), ("ann/0a1;1b0/2/0 bob/0a0/0/1 cy/0z0/0/0", ("z",)),
        ):
            with self.subTest(other):
                if strip is None:
                    self.is_told_same(made, company(other))
                else:
                    self.is_told_parted(made, company(other), len(strip))
                    self.assertNotEqual(made.leaves(strip), company(other).leaves(strip))

    def test_empty_companies(self):
        none, done = Company(), company("ann/-/0/0")
        begin = ((), (), (-1, 0))
        self.assertEqual(likeness(none, Company()), ("same", [([begin], [begin])]))
        self.assertEqual(likeness(none, done), ("same", [([begin], [done.begin()])]))
        self.assertEqual(likeness(none, company("ann/0a0/0/0")), ("parted", ("a",)))
        self.assertEqual(likeness(company("ann/0b0;0z0/0/0"), none), ("parted", ("b",)))
        self.assertIs(is_same(none, none, [([begin], [begin])]), True)
        self.assertIs(is_same(none, none, []), False)
        self.assertIs(is_same(none, company("ann/0a0/0/0"), [([begin], [((0,), (0,), (-1, 0))])]), False)

    def test_sixty_stands_at_most(self):
        self.is_told_same(company(SIXTY_NEVER_STILL), company(SIXTY_NEVER_STILL))
        for other in (SIXTY_ONE, SIXTY_NEVER_STILL, "", "ann/0z0/0/0", *SAME_601):
            # A sign that just one of them can write is as near as may be; all the same it is refused.
            if other != SIXTY_ONE:
                self.too_many(60, (SIXTY_ONE, other))
        self.too_many(60, (SIXTY_ONE, SIXTY_ONE))

    def test_six_hundred_pairs_at_most(self):
        one, other = both(SAME_600)
        self.assertEqual(len(self.is_told_same(one, other)), 600)
        self.assertEqual(len(self.is_told_same(other, one)), 600)
        for texts in (SAME_601, THROUGH_601, PARTED_LATER):
            self.too_many(600, texts)

    def test_a_strip_is_told_though_longer_ones_lead_to_more(self):
        self.is_told_parted(*both(PARTED_BEYOND), 10)
        self.is_told_parted(*both(PARTED_AT_26), 26)
        self.is_told_parted(*both(PARTED_AT_26)[::-1], 26)

    def test_the_same_asked_again(self):
        for texts in (SAME_600, PARTED_BEYOND, PARTED_AT_26, ("ann/0a0;0b0/0/0", "")):
            self.assertEqual(likeness(*both(texts)), likeness(*both(texts)))

    def test_told_lists_are_new_ones(self):
        one, other = both(("ann/0a1;1a1/0/0 bob/0a0/0/0", "x/0a0/0/0"))
        told, kept = likeness(one, other), likeness(one, other)
        for pair in told[1]:
            for lot in pair:
                lot.append("odd")
        told[1].reverse()
        self.assertEqual(likeness(one, other), kept)

    def test_against_all_strips(self):
        lengths = []
        for row, other in pairs_of_companies(400):
            ours, theirs = strips_of(row, 5), strips_of(other, 5)
            shortest = min([len(strip) for strip in {*ours, *theirs} if (strip in ours) != (strip in theirs)], default=None)
            with self.subTest(row=row, other=other):
                if shortest is not None:
                    strip = self.is_told_parted(Company(row), Company(other), shortest)
                    self.assertNotEqual(strip in ours, strip in theirs)
                else:
                    told = likeness(Company(row), Company(other))
                    if told[0] == "parted":
                        self.assertGreater(len(told[1]), 5)
                    else:
                        pairs = self.is_told_same(Company(row), Company(other))
                        expected = [(lots_of(row, strip), lots_of(other, strip)) for strip in ours if len(strip) < 3]
                        self.assertTrue(all(pair in pairs for pair in expected))
            lengths.append(shortest)
        self.assertTrue({None, 1, 2, 3, 4} <= set(lengths), set(lengths))


class Same(Checks):
    """Told pairs handed back, and such that were changed."""

    def each(self, many=250, most=60):
        for row, other in pairs_of_companies(many):
            one, two = Company(row), Company(other)
            told = likeness(one, two)
            if told[0] == "same" and len(told[1]) <= most:
                yield one, two, told[1]

    def shows(self, one, other, pairs, expected):
        kept = [tuple(list(lot) for lot in pair) for pair in pairs]
        self.assertIs(is_same(one, other, pairs), expected)
        self.assertEqual([tuple(pair) for pair in pairs], kept)

    def test_turned_about_and_twice(self):
        for one, other, pairs in self.each():
            self.shows(one, other, pairs[::-1], True)
            self.shows(one, other, pairs * 2, True)
            self.shows(one, other, [[ours, theirs] for ours, theirs in pairs], True)
            self.shows(other, one, [(theirs, ours) for ours, theirs in pairs], True)
        self.assertIs(is_same(pairs=pairs, other=other, one=one), True)

    def test_a_pair_out(self):
        changed = 0
        for one, other, pairs in self.each():
            self.shows(one, other, [], False)
            for at in range(len(pairs)):
                self.shows(one, other, pairs[:at] + pairs[at + 1:], False)
                changed += 1
        self.assertGreater(changed, 100)

    def test_a_stand_out_twice_or_turned(self):
        changed = 0
        for one, other, pairs in self.each():
            for at, side in itertools.product(range(len(pairs)), (0, 1)):
                for stand in range(len(pairs[at][side])):
                    rows = [list(pairs[at][side]) for _ in range(3)]
                    del rows[0][stand]
                    rows[1].insert(stand, rows[1][stand])
                    rows[2].append(rows[2].pop(stand))
                    for row in rows:
                        if row != pairs[at][side]:
                            pair = (row, pairs[at][1]) if side == 0 else (pairs[at][0], row)
                            self.shows(one, other, pairs[:at] + [pair] + pairs[at + 1:], False)
                            changed += 1
        self.assertGreater(changed, 300)

    def test_an_empty_lot_shows_nothing_wherever_it_stands(self):
        for one, other, pairs in self.each(120):
            for odd in (([], []), ([one.begin()], []), ([], [other.begin()])):
                self.shows(one, other, pairs + [odd], False)
                self.shows(one, other, [odd] + pairs, False)

    def test_a_lot_that_is_not_ascending_shows_nothing(self):
        one, other = both(("ann/0a1;1a1/0/0 bob/0a0/0/0", "x/0a0/0/0"))
        begin, later, alone = one.begin(), ((1, 0), (0, 0), (-1, 0)), other.begin()
        pairs = [([begin], [alone]), ([begin, later], [alone])]
        self.shows(one, other, pairs, True)
        for odd in (([later, begin], [alone]), ([begin, begin, later], [alone]), ([begin], [alone, alone])):
            self.shows(one, other, pairs + [odd], False)
            self.shows(one, other, [odd] + pairs, False)
            self.shows(one, other, [pairs[0], odd], False)
            self.shows(one, other, [odd, pairs[1]], False)

    def test_pairs_that_nothing_leads_to(self):
        one, other = both(("ann/0a0;1a1;1b1;2c2/0/0", "x/0a0;1a2;2a2/0/0"))
        ours = [((at,), (0,), (-1, 0)) for at in range(3)]
        begins = ([ours[0]], [ours[0]])
        self.shows(one, other, [begins], True)
        self.shows(one, other, [begins, ([ours[0]], [ours[2]])], True)
        self.shows(one, other, [begins, ([ours[0]], [ours[1]])], False)
        self.shows(one, other, [begins, ([ours[0]], [ours[1]]), ([ours[0]], [ours[2]])], True)
        # By a b, or by a c, just one of the lots goes on.
        self.shows(one, other, [begins, ([ours[1]], [ours[0]])], False)
        self.shows(one, other, [begins, ([ours[2]], [ours[0]])], False)
        self.shows(one, other, [([ours[0]], [ours[2]])], False)

    def test_a_pair_turned_about(self):
        one, other = both(("ann/0a1;1a1/0/0 bob/0a0/0/0", "x/0a0/0/0"))
        pairs = likeness(one, other)[1]
        for at in range(2):
            self.shows(one, other, pairs[:at] + [pairs[at][::-1]] + pairs[at + 1:], False)
            self.shows(one, other, pairs + [pairs[at][::-1]], False)
        self.shows(one, other, [pair[::-1] for pair in pairs], False)
        one, other = both(("ann/0a1;1b0/0/0", "x/0a2;2b0/0/0"))
        pairs = likeness(one, other)[1]
        self.shows(one, other, [pairs[0], pairs[1][::-1]], False)

    def test_parted_ones_are_never_shown(self):
        for row, other in pairs_of_companies(200):
            one, two = Company(row), Company(other)
            if likeness(one, two)[0] == "parted":
                self.shows(one, two, [([one.begin()], [two.begin()])], False)
                stands = [(list(one.stands()), list(two.stands()))]
                self.shows(one, two, [([one.begin()], [two.begin()]), *stands], False)
                lots = [([ours], [theirs]) for ours, theirs in itertools.product(one.stands(), two.stands())]
                self.shows(one, two, lots[:600], False)

    def test_more_stands_than_sixty_are_not_refused(self):
        made = company(SIXTY_ONE)
        self.shows(made, made, [([made.begin()], [made.begin()])], False)
        # Pairs of lots that are met by strips alone show it, of any count of stands.
        found, todo = {}, [((made.begin(),), (made.begin(),))]
        while todo:
            pair = todo.pop()
            if pair not in found and len(found) <= 600:
                found[pair] = True
                for sign in "ab":
                    lot = tuple(sorted({
                        then for stand in pair[0] for each, _, then in made.steps(stand) if each == sign
                    }))
                    if lot:
                        todo.append((lot, lot))
        self.assertLess(len(found), 600)
        self.shows(made, made, [(list(ours), list(theirs)) for ours, theirs in found], True)

    def test_writers_by_chance(self):
        for chance in chances(60):
            row = [some_writer(chance, name, density=0.3) for name in ("ann", "bob", "cy")]
            try:
                self.is_told_same(Company(row), Company(row[::-1]))
            except TooMany:
                continue


if __name__ == "__main__":
    unittest.main()
