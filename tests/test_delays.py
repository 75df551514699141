"""Delays: strips told twice, by how many signs a writer is known, and what shows it."""

import itertools
import unittest

from by_hand import chances, company_row, some_writer, stands_of_row

from whoseink.companies import Company
from whoseink.delays import delay, is_doubt, is_ever, is_known, twice
from whoseink.errors import Still, TooMany

THIRTY = 10 ** 30 - 1
SIXTY_NEVER_STILL = "x/0a0;2a1/3/3 y/0b1;1b2;2b2/0/1 z/0b1;1a0/2/3"
SIXTY_ONE = "x/0a1;1a2/1/0 y/0a2;1a0;2a1/2/3 z/0a2;0b0;2a1;2b1/0/1"
# Each with whom is asked for, which kinds are stamped, and the delay.
KNOWN = (
    ("ann/0a0/0/0", None, (), 0),
    ("ann/0a0/0/0 bob/0b0/0/0", None, (), 0),
    ("ann/-/0/0 bob/0a0/1/0", "ann", (), 0),
    ("ann/0a1;1b1/1/1 bob/0a0/0/1", None, (), 2),
    ("ann/0b0;1a2;2a1;2b1/2/1 bob/0b2;1b0;2a2/0/1 cy/0a2/1/0", None, (), 3),
    ("ann/0a0/1/0 bob/0a2;0b2;1b0;2a1/1/2", None, (), 4),
    ("ann/0b2;2a0/2/3 bob/0b2;1a0;2a2;2b0/1/1", None, (), 6),
    ("ann/0a0/3/2 bob/0a1;1b1;2a1/1/1", "ann", (), 2),
    ("ann/0a2;1b1;2a1/1/2 bob/0a0/1/0", "ann", (), 4),
    ("ann/0b1;1a2;2a1;2b2/0/1 bob/0b2;1b0;2a0/0/1 cy/1a2/0/3", "ann", (), 8),
    ("ann/0a1;0b2;1a0;2b1/1/0 bob/0a1;0b2;1b0;2b0/1/1", "ann", (), 10),
    ("ann/0a2;1a1;2b2/1/3 bob/0a0/1/2", None, (("bob", "b"),), 2),
    ("ann/0a2;0b2;1b0;2a1;2b2/1/3 bob/0a0;2a1/1/2", None, (("bob", "b"),), 4),
    ("ann/0a2;1a1;2a2;2b1/0/1 bob/0b1/1/3 cy/0a2;1b0;2b0/2/1", "ann", (("bob", "a"),), 7),
    ("ann/0a0/0/0 bob/0a0/0/0", None, (("ann", "a"),), 0),
    ("ann/0a0/0/0 bob/0a0/0/0 cy/0a0/0/0", "ann", (("ann", "a"),), 0),
)
EVER = (
    ("ann/0a0/0/0 bob/0a0/0/0", None, ()),
    ("ann/0a0/0/0 bob/0a0/0/0", "ann", ()),
    ("ann/0a0/0/1 bob/0a0/2/0", None, ()),
    ("ann/0a0/3/0 bob/0a1/0/3", None, (("ann", "b"),)),
    ("ann/0a0/0/0 bob/0a2/3/3", "ann", ()),
    ("ann/0b2/2/3 bob/0b0/2/0", "ann", (("bob", "a"),)),
    ("ann/0a0/0/0 bob/0a0/0/0 cy/0a0/0/0", None, (("ann", "a"),)),
    ("ann/0a1;1a0/0/0 bob/0a1;1b0/2/0", None, ()),
)


def company(text):
    return Company(company_row(text))


def by_strip(row, most):
    """The tellings of each strip of at most so many signs, whole histories being gone through."""
    found = {(): [()]}
    level = dict(found)
    for _ in range(most):
        behind = {}
        for strip, tellings in level.items():
            for sign, writer, names in itertools.product("ab", row, tellings):
                longer, more = (*strip, sign), (*names, writer[0])
                if stands_of_row(row, longer, more) is not None:
                    behind.setdefault(longer, []).append(more)
        level = behind
        found.update(level)
    return found


def alike(stamps, strip, one, other):
    return all(
        name == second or ((name, sign) not in stamps and (second, sign) not in stamps)
        for sign, name, second in zip(strip, one, other)
    )


def differ(who, name, second):
    return name != second and (who is None or who in (name, second))


def doubts_by_hand(found, who, stamps):
    """All (strip, one, other, many): alike to the eye, with a sign that differs so many signs ahead of the end."""
    for strip, tellings in found.items():
        for one, other in itertools.product(tellings, repeat=2):
            if alike(stamps, strip, one, other):
                for at in range(len(strip)):
                    if differ(who, one[at], other[at]):
                        yield strip, one, other, len(strip) - 1 - at


def small_companies(many, most=2, density=0.5):
    """Companies that chance makes, each with whom is asked for and which kinds are stamped."""
    for chance in chances(many):
        names = ["ann", "bob", "cy"][:chance.randrange(1, most + 1)]
        row = [some_writer(chance, name, density=density) for name in names]
        stamps = [(name, sign) for name in names for sign in "ab" if chance.random() < 0.2]
        yield row, chance.choice([None, None, "ann", "bob", "nobody"]), stamps


class Checks(unittest.TestCase):

    def known(self, made, told, who=None, stamps=()):
        """A told delay, and that its papers are as the document tells them."""
        word, n, pairs, ranks, shown = told
        self.assertEqual((type(told), word, type(pairs), type(ranks)), (tuple, "known", list, list))
        self.assertIs(is_known(made, n, pairs, ranks, who=who, stamps=stamps), True)
        if n == 0:
            self.assertEqual((ranks, shown), ([], None))
            return
        self.assertTrue(all(type(row) is tuple for row in (shown, *shown)))
        self.assertIs(is_doubt(made, *shown, n - 1, who=who, stamps=stamps), True)
        self.assertIs(is_known(made, n - 1, pairs, ranks, who=who, stamps=stamps), False)

    def ever(self, made, told, who=None, stamps=()):
        word, at, lead, ring, one, other = told
        self.assertEqual((type(told), word), (tuple, "ever"))
        self.assertTrue(all(type(row) is tuple for row in (lead, ring, one, other)))
        self.assertIs(is_ever(made, *told[1:], who=who, stamps=stamps), True)
        for many in (0, 1, len(ring) + 3):
            rows = [names + names[len(lead):] * many for names in (one, other)]
            strip = lead + ring + ring * many
            self.assertIs(is_doubt(made, strip, *rows, len(strip) - 1 - at, who=who, stamps=stamps), True)

    def refused(self, kind, ask):
        with self.assertRaises(kind) as caught:
            ask()
        self.assertIs(type(caught.exception), kind)
        return caught.exception


class Twice(Checks):

    def test_by_hand(self):
        for text, stamps, expected in (
            ("ann/0a0/0/0 bob/0a0/0/0", (), ("a",)),
            ("ann/0a0/0/0 bob/0b0/0/0", (), None),
            ("ann/0a1;1b1/0/0 bob/0b0/0/0", (), ("a", "b")),
            ("ann/0a1;1c2;2b2/0/0 bob/0b0/0/0", (), ("a", "c", "b")),
            ("ann/0a0/0/0 bob/0a0/0/0", [("ann", "a")], None),
            ("ann/0a0/0/0 bob/0a0/0/0", [("bob", "a")], None),
            ("ann/0a0/0/0 bob/0a0/0/0", [("ann", "b"), ("cy", "a"), ("bob", "b")], ("a",)),
            ("ann/0a0/0/0 bob/0a0/0/0 cy/0a0/0/0", [("ann", "a")], ("a",)),
            ("ann/0a0/0/0 bob/0a0/0/0 cy/0a0/0/0", [("ann", "a"), ("cy", "a")], None),
            ("ann/0a0/0/0 bob/0a0;0b0/0/0 cy/0b0/0/0", [("ann", "a")], ("b",)),
            ("ann/0a0;0b1;1a1/0/0 bob/0b0/0/0", [("ann", "b")], None),
            ("", (), None),
            ("ann/-/0/0", (), None),
        ):
            told = twice(company(text), stamps=stamps)
            with self.subTest(text=text, stamps=stamps):
                self.assertEqual((told, type(told)), (expected, type(expected)))
                self.assertEqual(twice(stamps=tuple(stamps) * 2, company=company(text)), expected)
        self.assertEqual(twice(company("ann/0a0/0/0 bob/0a0/0/0")), ("a",))

    def test_too_many(self):
        # The first sign of it is told twice; all the same it is refused.
        for stamps in ((), [("x", "a"), ("y", "a"), ("z", "a"), ("z", "b")]):
            self.assertEqual(self.refused(TooMany, lambda: twice(company(SIXTY_ONE), stamps=stamps)).most, 60)
        self.assertEqual(len(twice(company(SIXTY_NEVER_STILL))), 1)

    def test_against_all_strips(self):
        lengths = []
        for row, _, stamps in small_companies(300, most=3, density=0.3):
            found = by_strip(row, 4)
            expected = min([len(doubt[0]) for doubt in doubts_by_hand(found, None, stamps)], default=None)
            try:
                told = twice(Company(row), stamps=stamps)
            except TooMany:
                continue
            with self.subTest(row=row, stamps=stamps):
                if expected is None:
                    self.assertTrue(told is None or len(told) > 4)
                else:
                    self.assertEqual(len(told), expected)
                    self.assertTrue(any(
                        one != other and alike(stamps, told, one, other)
                        for one, other in itertools.product(found[told], repeat=2)
                    ))
                self.assertEqual(twice(Company(row), stamps=stamps[::-1] + stamps), told)
            lengths.append(expected)
        self.assertTrue({None, 1, 2, 3} <= set(lengths), set(lengths))

    def test_all_kinds_stamped(self):
        for row, _, _ in small_companies(40):
            kinds = [(writer[0], sign) for writer in row for _, sign, _ in writer[1]]
            self.assertIsNone(twice(Company(row), stamps=kinds))


class Delay(Checks):

    def test_known_ones(self):
        for text, who, stamps, n in KNOWN:
            made = company(text)
            told = delay(made, who=who, stamps=stamps)
            with self.subTest(text):
                self.assertEqual(told[:2], ("known", n))
                self.known(made, told, who, stamps)
                self.assertEqual(delay(company(text), who=who, stamps=stamps), told)

    def test_known_ones_against_all_strips(self):
        longest = 0
        for text, who, stamps, n in KNOWN:
            behind = {many for *_, many in doubts_by_hand(by_strip(company_row(text), 7 if n else 4), who, stamps)}
            shown = delay(company(text), who=who, stamps=stamps)[4]
            with self.subTest(text):
                self.assertTrue(all(many < n for many in behind), behind)
                if shown and len(shown[0]) <= 7:
                    self.assertEqual(max(behind), n - 1)
                    longest = max(longest, n)
        self.assertGreater(longest, 3)

    def test_ever(self):
        for text, who, stamps in EVER:
            made = company(text)
            told = delay(made, who=who, stamps=stamps)
            with self.subTest(text):
                self.ever(made, told, who, stamps)
                self.assertEqual(delay(company(text), who=who, stamps=stamps), told)

    def test_by_hand(self):
        # Ann and bob write by turns: ann an a and then b alone, bob a alone. Of two a's either one's may
        # be the first; the third sign tells.
        begin, anns = ((0, 0), (0, 0), (-1, 0)), ((1, 0), (0, 0), (0, 1))
        bobs, later = ((0, 0), (1, 0), (1, 1)), ((1, 0), (1, 0), (1, 1))
        word, n, pairs, ranks, shown = delay(company("ann/0a1;1b1/1/1 bob/0a0/0/1"))
        self.assertEqual((word, n, shown[0]), ("known", 2, ("a", "a")))
        self.assertEqual(sorted(shown[1:]), [("ann", "bob"), ("bob", "ann")])
        self.assertEqual(sorted(ranks), [(bobs, anns, 1), (anns, later, 0)])
        alone = [(stand, stand) for stand in (begin, anns, bobs, later)]
        self.assertEqual(sorted(pairs), sorted([*alone, (bobs, anns), (anns, later)]))

    def test_defaults_and_names(self):
        made = company("ann/0a0/0/0 bob/0a0/0/0 cy/0b0/0/0")
        self.assertEqual(delay(made), delay(made, who=None, stamps=()))
        self.assertEqual(delay(stamps=[("ann", "a")], who=None, company=made)[:2], ("known", 0))
        self.assertEqual(delay(made, who="cy")[:2], ("known", 0))
        self.assertEqual(delay(made, who="bob")[0], "ever")

    def test_strangers(self):
        for text in ("ann/0a0/0/0 bob/0a0/0/0", SIXTY_NEVER_STILL):
            for who in ("nobody", "cyd", "annie"):
                made = company(text)
                told = delay(made, who=who)
                self.assertEqual((told[:2], told[3:]), (("known", 0), ([], None)))
                self.known(made, told, who)
        self.refused(Still, lambda: delay(company("ann/0a1/0/0"), who="nobody"))
        self.refused(TooMany, lambda: delay(company(SIXTY_ONE), who="nobody"))

    def test_stamps_in_any_order_twice_and_of_kinds_that_nobody_has(self):
        made = company("ann/0a0;0b0/0/0 bob/0a0/0/0 cy/0b0/0/0")
        kinds = [("ann", "a"), ("cy", "b"), ("zoe", "a"), ("ann", "z")]
        told = delay(made, stamps=kinds)
        self.assertEqual(told[:2], ("known", 0))
        for each in itertools.permutations(kinds):
            self.assertEqual(delay(made, stamps=each), told)
            self.assertEqual(delay(made, stamps=list(each) * 3), told)
        self.assertEqual(kinds, [("ann", "a"), ("cy", "b"), ("zoe", "a"), ("ann", "z")])
        self.assertEqual(delay(made, stamps=[("zoe", "a"), ("ann", "z")]), delay(made))

    def test_one_stamp_shows_of_another_kind_who_wrote_it(self):
        # Where ann's a is stamped, an a without a stamp is bob's.
        made = company("ann/0a0/0/0 bob/0a0/0/0")
        self.assertEqual([delay(made, stamps=[(name, "a")])[:2] for name in ("ann", "bob")], [("known", 0)] * 2)

    def test_still(self):
        for text, strip in (
            ("", ()), ("ann/-/0/0", ()), ("ann/0a1/0/0", ("a",)), ("ann/0a1;1b2/0/0", ("a", "b")),
            ("ann/0a0/0/2", ("a", "a")), ("ann/0a0/1/0 bob/0a0/1/0 cy/0c0/0/0", ("c",)),
            ("ann/0a1/0/0 bob/0a0/0/1", ("a", "a")),
        ):
            made = company(text)
            for who in (None, "ann", "nobody"):
                refusal = self.refused(Still, lambda: delay(made, who=who, stamps=[("ann", "a")]))
                self.assertEqual((refusal.strip, refusal.word), (made.still(), "Still"))
                self.assertEqual(refusal.strip, strip)

    def test_too_many_goes_ahead_of_still(self):
        for text in (SIXTY_ONE, "x/0a1;1a2/3/3 y/0a1;1a2/3/3 z/0a1;1a2;2a0/3/3"):
            self.assertEqual(self.refused(TooMany, lambda: delay(company(text))).most, 60)

    def test_sixty_stands(self):
        made = company(SIXTY_NEVER_STILL)
        self.assertEqual(len(made.stands()), 60)
        for who in (None, "x", "y", "z"):
            told = delay(made, who=who)
            {"known": self.known, "ever": self.ever}[told[0]](made, told, who)

    def test_told_lists_are_new_ones(self):
        made = company("ann/0a1;1b1/1/1 bob/0a0/0/1")
        told = delay(made)
        kept = (*told[:2], list(told[2]), list(told[3]), told[4])
        told[2].clear()
        told[3].append("odd")
        self.assertEqual(delay(made), kept)

    def test_against_all_strips_and_rows_of_names(self):
        words = []
        for row, who, stamps in small_companies(1500):
            made = Company(row)
            try:
                told = delay(made, who=who, stamps=stamps)
            except (Still, TooMany):
                continue
            most = 5
            behind = {many for *_, many in doubts_by_hand(by_strip(row, most), who, stamps)}
            with self.subTest(row=row, who=who, stamps=stamps):
                if told[0] == "known":
                    self.known(made, told, who, stamps)
                    self.assertTrue(all(many < told[1] for many in behind))
                    if told[1] == 0 or len(told[4][0]) <= most:
                        self.assertEqual(max(behind, default=-1), told[1] - 1)
                else:
                    self.ever(made, told, who, stamps)
                    # The sign that differs may stand anywhere in a longer strip.
                    self.assertEqual(behind >= set(range(most - told[1])), True)
            words.append(told[0] if told[0] == "ever" else told[1])
        self.assertTrue(words.count("ever") > 40 and words.count(0) > 40 and len(set(words)) > 3, set(words))


class Known(Checks):

    def refuted(self, made, n, pairs, ranks, who=None, stamps=()):
        kept = (list(pairs), list(ranks))
        self.assertIs(is_known(made, n, pairs, ranks, who=who, stamps=stamps), False)
        self.assertEqual((pairs, ranks), kept)

    def each(self):
        for text, who, stamps, n in KNOWN:
            made = company(text)
            _, _, pairs, ranks, _ = delay(made, who=who, stamps=stamps)
            yield made, n, pairs, ranks, who, stamps

    def test_a_pair_or_a_rank_out(self):
        for made, n, pairs, ranks, who, stamps in self.each():
            for at in range(len(pairs)):
                self.refuted(made, n, pairs[:at] + pairs[at + 1:], ranks, who, stamps)
            for at in range(len(ranks)):
                self.refuted(made, n, pairs, ranks[:at] + ranks[at + 1:], who, stamps)
            self.refuted(made, n, [], ranks, who, stamps)
            self.refuted(made, n, [], [], who, stamps)

    def test_turned_about_and_twice(self):
        for made, n, pairs, ranks, who, stamps in self.each():
            self.assertIs(is_known(made, n, pairs[::-1], ranks[::-1], who=who, stamps=stamps), True)
            self.assertIs(is_known(made, n, pairs * 2, ranks, who=who, stamps=stamps), True)
            for at, (one, other, rank) in enumerate(ranks):
                for more in (rank, rank - 1, rank + 1, n - 1):
                    self.refuted(made, n, pairs, ranks + [(one, other, more)], who, stamps)

    def test_the_greater_stand_first(self):
        for made, n, pairs, ranks, who, stamps in self.each():
            for at, (one, other) in enumerate(pairs):
                if one != other:
                    self.refuted(made, n, pairs + [(other, one)], ranks, who, stamps)
                    self.refuted(made, n, pairs[:at] + [(other, one)] + pairs[at + 1:], ranks, who, stamps)
            for at, (one, other, rank) in enumerate(ranks):
                self.refuted(made, n, pairs, ranks[:at] + [(other, one, rank)] + ranks[at + 1:], who, stamps)
                self.refuted(made, n, pairs, ranks + [(other, one, rank)], who, stamps)

    def test_n_and_ranks_moved(self):
        for made, n, pairs, ranks, who, stamps in self.each():
            for more in (1, 2, THIRTY):
                self.assertIs(is_known(made, n + more, pairs, ranks, who=who, stamps=stamps), True)
                moved = [(one, other, rank + more) for one, other, rank in ranks]
                self.assertIs(is_known(made, n + more, pairs, moved, who=who, stamps=stamps), True)
                if ranks:
                    self.refuted(made, n, pairs, moved, who, stamps)
            for less in (n - 1, -1, -2, -THIRTY):
                self.refuted(made, less, pairs, ranks, who, stamps)
            if ranks:
                self.refuted(made, n, pairs, [(one, other, rank - 1) for one, other, rank in ranks], who, stamps)
                self.refuted(made, n, pairs, [(one, other, 0) for one, other, _ in ranks], who, stamps)
                self.refuted(made, n, pairs, [(one, other, -1) for one, other, _ in ranks], who, stamps)

    def test_a_rank_one_more_or_less(self):
        for made, n, pairs, ranks, who, stamps in self.each():
            for at, (one, other, rank) in enumerate(ranks):
                less = ranks[:at] + [(one, other, rank - 1)] + ranks[at + 1:]
                # Told ranks are the least ones: each greater than 0 has one just below it behind it.
                self.refuted(made, n, pairs, less, who, stamps)

    def test_ranks_that_are_not_the_least_ones(self):
        made = company("ann/0a1;1b1/1/1 bob/0a0/0/1")
        _, n, pairs, ranks, _ = delay(made)
        low, high = sorted(ranks, key=lambda row: row[2])
        self.assertEqual((n, low[2], high[2]), (2, 0, 1))
        self.assertIs(is_known(made, 3, pairs, [low, (*high[:2], 2)]), True)
        self.assertIs(is_known(made, 3, pairs, [(*low[:2], 1), (*high[:2], 2)]), True)
        self.assertIs(is_known(made, 3, pairs, [(*low[:2], 1), high]), False)
        self.assertIs(is_known(made, 2, pairs, [low, (*high[:2], 2)]), False)

    def test_more_pairs_and_ranks_than_there_must_be(self):
        made = company("ann/0a0/0/0 bob/0b0/0/0")
        begin, other = made.begin(), ((1, 2), (0, 0), (-1, 0))
        self.assertIs(is_known(made, 0, [(begin, begin)], []), True)
        self.assertIs(is_known(made, 0, [(other, other), (begin, begin)], []), True)
        # At the other stand nobody can write, so that it needs nothing.
        self.assertIs(is_known(made, 0, [(begin, other), (begin, begin)], []), True)
        self.assertIs(is_known(made, 1, [(begin, begin)], [(begin, other, 0)]), True)
        self.assertIs(is_known(made, 1, [(begin, begin)], [(begin, begin, 0)]), False)
        self.assertIs(is_known(made, 0, [(begin, begin)], [(begin, other, 0)]), False)
        ann = ((0, 2), (0, 0), (-1, 0))
        self.assertIs(is_known(made, 0, [(begin, begin), (begin, ann)], []), True)
        self.assertIs(is_known(made, 0, [(begin, begin), (ann, other)], []), True)
        self.assertIs(is_known(made, 0, [(begin, begin), (ann, ((1, 0), (0, 0), (-1, 0)))], []), True)

    def test_companies_that_can_be_still(self):
        made = company("ann/0a1/0/0 bob/0a1/0/0")
        begin, behind = made.begin(), ((1, 1), (0, 0), (-1, 0))
        ann, bob = ((1, 0), (0, 0), (-1, 0)), ((0, 1), (0, 0), (-1, 0))
        pairs = [(begin, begin), (ann, ann), (bob, bob), (bob, ann), (behind, behind)]
        ranks = [(bob, ann, 1), (behind, behind, 0)]
        for who in (None, "ann", "bob"):
            self.assertIs(is_known(made, 2, pairs, ranks, who=who), True)
            self.assertIs(is_known(made, 1, pairs, ranks, who=who), False)
            self.assertIs(is_known(made, 2, pairs, ranks[:1], who=who), False)
            self.assertIs(is_known(made, 0, pairs, [], who=who), False)
        self.assertIs(is_known(made, 0, pairs, [], who="nobody"), True)
        self.assertIs(is_known(made, 0, pairs, [], stamps=[("ann", "a")]), True)
        self.assertIs(is_known(made, 0, [pairs[at] for at in (0, 1, 2, 4)], [], stamps=[("bob", "a")]), True)
        self.assertIs(is_known(made, 0, [pairs[at] for at in (0, 1, 2, 4)], [], who="nobody"), False)
        none = Company()
        self.assertIs(is_known(none, 0, [(none.begin(), none.begin())], []), True)
        self.assertIs(is_known(none, 0, [], []), False)

    def test_too_many_stands_are_not_refused(self):
        made = company(SIXTY_ONE)
        self.assertIs(is_known(made, 3, [(made.begin(), made.begin())], []), False)

    def test_by_name(self):
        made = company("ann/0a0/0/0")
        begin = made.begin()
        self.assertIs(is_known(ranks=[], pairs=[(begin, begin)], n=0, company=made, stamps=[], who="ann"), True)

    def test_what_is_shown_of_one_shows_nothing_of_all(self):
        made = company("ann/0a0/0/0 bob/0b0;0c0/0/0 cy/0b0/0/0")
        _, n, pairs, ranks, _ = delay(made, who="ann")
        self.assertEqual((n, ranks), (0, []))
        self.refuted(made, n, pairs, ranks)
        self.refuted(made, n, pairs, ranks, "bob")
        self.assertIs(is_known(made, n, pairs, ranks, stamps=[("bob", "b")]), True)


class Doubt(Checks):

    def test_against_all_strips_and_rows_of_names(self):
        for row, who, stamps in small_companies(12):
            made = Company(row)
            found = by_strip(row, 3)
            doubts = {doubt: True for doubt in doubts_by_hand(found, who, stamps)}
            for length in range(4):
                rows = list(itertools.product([writer[0] for writer in row] + ["nobody"], repeat=length))
                for strip in itertools.product("ab", repeat=length):
                    for one, other in itertools.product(rows, repeat=2):
                        if one[:1] > other[:1]:
                            continue
                        for many in range(-1, length + 1):
                            told = is_doubt(made, strip, one, other, many, who=who, stamps=stamps)
                            self.assertIs(told, (strip, one, other, many) in doubts)

    def test_rows_as_lists(self):
        made = company("ann/0a0/0/0 bob/0a0/0/0")
        for kind, other in itertools.product((list, tuple), repeat=2):
            rows = (kind("aa"), other(("ann", "ann")), kind(("ann", "bob")))
            self.assertIs(is_doubt(made, *rows, 0), True)
            self.assertIs(is_doubt(made, *rows, 1), False)
            self.assertEqual(rows, (kind("aa"), other(("ann", "ann")), kind(("ann", "bob"))))
        self.assertIs(is_doubt(many=0, other=["ann"], one=["bob"], strip=["a"], company=made), True)

    def test_other_numbers(self):
        made = company("ann/0a0/0/0 bob/0a0/0/0")
        for many in (-1, -2, 2, 3, THIRTY, -THIRTY):
            self.assertIs(is_doubt(made, ["a", "a"], ["ann", "ann"], ["bob", "bob"], many), False)
        for many in (0, -1):
            self.assertIs(is_doubt(made, [], [], [], many), False)

    def test_rows_cut_and_longer_ones(self):
        made = company("ann/0a0/0/0 bob/0a0/0/0")
        strip, one, other = ["a"] * 3, ["ann"] * 3, ["bob"] * 3
        self.assertIs(is_doubt(made, strip, one, other, 2), True)
        for rows in (
            (strip[:2], one, other), (strip, one[:2], other), (strip, one, other[:2]), (strip * 2, one, other),
            (strip, one * 2, other), (strip, one, other * 2), (strip, [], other), (strip, one, []), (strip, [], []),
        ):
            for many in range(6):
                self.assertIs(is_doubt(made, *rows, many), False)

    def test_names_and_signs_exchanged(self):
        for text, who, stamps, n in KNOWN:
            made = company(text)
            shown = delay(made, who=who, stamps=stamps)[4]
            if shown is None:
                continue
            self.assertIs(is_doubt(made, shown[0], shown[2], shown[1], n - 1, who=who, stamps=stamps), True)
            self.assertIs(is_doubt(made, shown[0], shown[1], shown[1], n - 1, who=who, stamps=stamps), False)
            for row, at in itertools.product(range(3), range(len(shown[0]))):
                for odd in ("nobody", "", "z", "AA"):
                    rows = [list(each) for each in shown]
                    rows[row][at] = odd
                    self.assertIs(is_doubt(made, *rows, n - 1, who=who, stamps=stamps), False)

    def test_stamps_part_them(self):
        made = company("ann/0a0;0b0/0/0 bob/0a0;0b0/0/0")
        rows = (["a", "b"], ["ann", "ann"], ["bob", "ann"])
        for stamps, expected in (
            ([], True), ([("ann", "a")], False), ([("bob", "a")], False), ([("ann", "b")], True),
            ([("bob", "b"), ("cy", "a")], True), ([("ann", "b"), ("ann", "a")], False),
        ):
            self.assertIs(is_doubt(made, *rows, 1, stamps=stamps), expected)

    def test_who_is_asked_for(self):
        made = company("ann/0a0/0/0 bob/0a0/0/0 cy/0a0/0/0")
        for one, other in itertools.product(("ann", "bob", "cy"), repeat=2):
            for who in (None, "ann", "bob", "cy", "nobody"):
                expected = one != other and who in (None, one, other)
                self.assertIs(is_doubt(made, ["a"], [one], [other], 0, who=who), expected)

    def test_companies_that_can_be_still(self):
        made = company("ann/0a1/0/0 bob/0a1/0/0")
        self.assertIs(is_doubt(made, ["a", "a"], ["ann", "bob"], ["bob", "ann"], 1), True)
        self.assertIs(is_doubt(made, ["a"] * 3, ["ann", "bob", "ann"], ["bob", "ann", "ann"], 2), False)
        self.assertIs(is_doubt(Company(), [], [], [], 0), False)

    def test_too_many_stands_are_not_refused(self):
        self.assertIs(is_doubt(company(SIXTY_ONE), ["a"], ["x"], ["y"], 0), True)


class Ever(Checks):

    def test_told_ones_changed(self):
        for text, who, stamps in EVER:
            made = company(text)
            _, at, lead, ring, one, other = delay(made, who=who, stamps=stamps)

            def shows(*rows):
                return is_ever(made, *rows, who=who, stamps=stamps)

            self.assertIs(shows(at, lead, ring, other, one), True)
            self.assertIs(shows(at, lead, ring, one, one), False)
            for place in (-1, -len(lead), -len(lead) - 1, len(lead), len(lead) + 1, THIRTY, -THIRTY):
                self.assertIs(shows(place, lead, ring, one, other), False)
            self.assertIs(shows(at, lead, (), one[:len(lead)], other[:len(lead)]), False)
            self.assertIs(shows(at, lead, (), one, other), False)
            self.assertIs(shows(0, (), ring, one[len(lead):], other[len(lead):]), False)
            twice_round = (one + one[len(lead):], other + other[len(lead):])
            self.assertIs(shows(at, lead, ring * 2, *twice_round), True)
            self.assertIs(shows(at, lead + ring, ring, *twice_round), True)
            self.assertIs(shows(at, lead, ring, *twice_round), False)
            begun = (one + one[len(lead):len(lead) + 1], other + other[len(lead):len(lead) + 1])
            self.assertIs(shows(at, lead + ring[:1], ring[1:] + ring[:1], *begun), True)
            for cut in range(len(one)):
                self.assertIs(shows(at, lead, ring, one[:cut], other), False)
                self.assertIs(shows(at, lead, ring, one, other[:cut]), False)
                self.assertIs(shows(at, lead, ring, one[:cut], other[:cut]), False)

    def test_names_and_signs_exchanged(self):
        for text, who, stamps in EVER:
            made = company(text)
            told = delay(made, who=who, stamps=stamps)[2:]
            for row in range(4):
                for at, odd in itertools.product(range(len(told[row])), ("nobody", "", "z", "AA")):
                    rows = [list(each) for each in told]
                    rows[row][at] = odd
                    for place in range(len(told[0])):
                        self.assertIs(is_ever(made, place, *rows, who=who, stamps=stamps), False)

    def test_rows_as_lists(self):
        made = company("ann/0a0/0/0 bob/0a0/0/0")
        for kind, other in itertools.product((list, tuple), repeat=2):
            rows = (kind("a"), other("a"), other(["ann", "ann"]), kind(["bob", "ann"]))
            self.assertIs(is_ever(made, 0, *rows), True)
            self.assertEqual(rows, (kind("a"), other("a"), other(["ann", "ann"]), kind(["bob", "ann"])))
        self.assertIs(is_ever(other=["ann"] * 2, one=["bob"] * 2, ring=["a"], lead=["a"], at=0, company=made), True)

    def test_the_sign_that_differs_is_one_of_the_lead(self):
        made = company("ann/0a0/0/0 bob/0a0/0/0")
        one, other = ["ann", "ann", "ann"], ["ann", "ann", "bob"]
        self.assertIs(is_ever(made, 2, ["a", "a", "a"], ["a"], one + ["ann"], other + ["ann"]), True)
        for at in range(4):
            self.assertIs(is_ever(made, at, ["a", "a"], ["a"], one, other), False)

    def test_the_ring_leads_each_of_them_back(self):
        made = company("ann/0a1;1a0/0/0 bob/0a0/0/0")
        # By an a of hers, ann goes to and fro; bob stays.
        one, other = ["ann", "ann", "ann"], ["bob", "ann", "ann"]
        self.assertIs(is_ever(made, 0, ["a"], ["a"], ["ann", "bob"], ["bob", "bob"]), True)
        self.assertIs(is_ever(made, 0, ["a"], ["a"], one[:2], other[:2]), False)
        self.assertIs(is_ever(made, 0, ["a"], ["a", "a"], one, other), True)
        self.assertIs(is_ever(made, 0, ["a"], ["a"], ["ann", "ann"], ["bob", "bob"]), False)
        self.assertIs(is_ever(made, 0, ["a"], ["a"], ["bob", "bob"], ["ann", "ann"]), False)

    def test_the_ring_that_changes_their_stands_leads_none_back(self):
        made = company("ann/0a1;1a0/0/0 bob/0a1;1a0/0/0")
        # Behind the lead one is where the other is behind the ring, and the other way about.
        self.assertIs(is_ever(made, 0, ["a"], ["a", "a"], ["ann", "ann", "bob"], ["bob", "bob", "ann"]), False)
        turned = (["ann", "ann", "bob", "bob", "ann"], ["bob", "bob", "ann", "ann", "bob"])
        self.assertIs(is_ever(made, 0, ["a"], ["a"] * 4, *turned), True)

    def test_stamps_part_them_in_lead_and_ring(self):
        made = company("ann/0a0;0b0/0/0 bob/0a0;0b0/0/0")
        rows = (["a"], ["b"], ["ann", "ann"], ["bob", "bob"])
        for stamps, expected in (([], True), ([("ann", "a")], False), ([("bob", "b")], False), ([("ann", "c")], True)):
            self.assertIs(is_ever(made, 0, *rows, stamps=stamps), expected)
        self.assertIs(is_ever(made, 0, *rows[:2], ["ann", "ann"], ["bob", "ann"], stamps=[("ann", "b")]), True)

    def test_who_is_asked_for(self):
        made = company("ann/0a0/0/0 bob/0a0/0/0 cy/0a0/0/0")
        for who, expected in ((None, True), ("ann", True), ("bob", True), ("cy", False), ("nobody", False)):
            self.assertIs(is_ever(made, 0, ["a"], ["a"], ["ann", "cy"], ["bob", "ann"], who=who), expected)

    def test_companies_that_can_be_still(self):
        made = company("ann/0a0;0b1/0/0 bob/0a0;0b1/0/0")
        self.assertIs(is_ever(made, 0, ["a"], ["a"], ["ann", "ann"], ["bob", "ann"]), True)
        self.assertIs(is_ever(made, 0, ["b"], ["a"], ["ann", "bob"], ["bob", "ann"]), True)
        self.assertIs(is_ever(made, 0, ["b"], ["b"], ["ann", "bob"], ["bob", "ann"]), False)
        self.assertIs(is_ever(Company(), 0, ["a"], ["a"], ["ann"] * 2, ["bob"] * 2), False)


if __name__ == "__main__":
    unittest.main()
