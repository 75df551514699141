"""Names, signs and writers, where a writer is done, and how it is written."""

import itertools
import random
import unittest

from by_hand import chances, some_writer

from whoseink.errors import BadText
from whoseink.writers import (
    MOST_ARROWS, MOST_COUNT, is_name, is_sign, is_writer, read_writer, sheds, writer_text,
)

ANN = ("ann", ((0, "a", 1), (1, "b", 0)), 2, 0)
NINE = tuple((place, sign, 0) for place in range(3) for sign in "abc")
ODD_SIGNS = "A`{/ -0;\nZ"


class NamesAndSigns(unittest.TestCase):

    def test_bounds(self):
        self.assertEqual((MOST_ARROWS, MOST_COUNT), (9, 3))

    def test_names_of_none_to_nine_letters(self):
        for many in range(10):
            with self.subTest(many):
                self.assertIs(is_name("abcxyzabc"[:many]), 1 <= many <= 6)

    def test_other_signs_at_any_place_of_a_name(self):
        for name in ("a", "ann", "abcde"):
            for at, odd in itertools.product(range(len(name) + 1), ODD_SIGNS):
                with self.subTest(name=name, at=at, odd=odd):
                    self.assertIs(is_name(name[:at] + odd + name[at:]), False)

    def test_each_small_letter_is_a_sign_and_a_name(self):
        for number in range(32, 127):
            sign = chr(number)
            with self.subTest(sign):
                self.assertIs(is_sign(sign), sign in "abcdefghijklmnopqrstuvwxyz")
                self.assertIs(is_name(sign), is_sign(sign))

    def test_signs_of_other_counts(self):
        for text in ("", "ab", "aa", "a ", " a", "a\n", "\n", "zzz"):
            with self.subTest(text):
                self.assertIs(is_sign(text), False)

    def test_long_texts(self):
        self.assertIs(is_name("a" * 9000), False)
        self.assertIs(is_sign("a" * 9000), False)


class Writers(unittest.TestCase):

    def test_ordinary_writers(self):
        for thing in (
            ANN, ("a", (), 0, 0), ("abcdef", ((2, "z", 2),), 3, 3), ("x", NINE, 0, 1),
            ("y", ((0, "a", 2), (0, "b", 2), (2, "a", 0)), 1, 0),
        ):
            with self.subTest(thing):
                self.assertIs(is_writer(thing), True)

    def test_nine_and_ten_arrows(self):
        rows = [tuple((place, sign, 1) for place in range(3) for sign in "abcd")[:many] for many in range(13)]
        for row in rows:
            with self.subTest(len(row)):
                self.assertIs(is_writer(("x", row, 0, 0)), len(row) <= 9)

    def test_places_out_of_bounds(self):
        for place, to in itertools.product((-1, 0, 2, 3, 10 ** 29), repeat=2):
            with self.subTest(place=place, to=to):
                expected = place in (0, 2) and to in (0, 2)
                self.assertIs(is_writer(("x", ((place, "a", to),), 0, 0)), expected)

    def test_places_that_do_not_rise(self):
        self.assertIs(is_writer(("x", ((1, "a", 0), (0, "b", 0)), 0, 0)), False)
        self.assertIs(is_writer(("x", ((0, "a", 0), (2, "a", 0), (1, "a", 0)), 0, 0)), False)
        self.assertIs(is_writer(("x", ((0, "a", 0), (1, "a", 0), (2, "a", 0)), 0, 0)), True)

    def test_arrows_of_one_place_rise_by_sign(self):
        self.assertIs(is_writer(("x", ((0, "b", 0), (0, "a", 1)), 0, 0)), False)
        self.assertIs(is_writer(("x", ((0, "a", 1), (0, "b", 0)), 0, 0)), True)

    def test_only_one_order_of_nine_arrows_will_do(self):
        for at, other in itertools.combinations(range(9), 2):
            row = list(NINE)
            row[at], row[other] = row[other], row[at]
            with self.subTest(at=at, other=other):
                self.assertIs(is_writer(("x", tuple(row), 0, 0)), False)

    def test_two_arrows_of_one_place_and_sign(self):
        for to, other in itertools.product(range(3), repeat=2):
            with self.subTest(to=to, other=other):
                self.assertIs(is_writer(("x", ((1, "a", to), (1, "a", other)), 0, 0)), False)
        self.assertIs(is_writer(("x", ((0, "a", 0), (1, "a", 0)), 0, 0)), True)
        self.assertIs(is_writer(("x", ((0, "a", 0), (0, "b", 1), (0, "b", 2)), 0, 0)), False)

    def test_patience_and_cap(self):
        for patience, cap in itertools.product((-1, 0, 1, 3, 4, -10 ** 29), repeat=2):
            with self.subTest(patience=patience, cap=cap):
                expected = patience in (0, 1, 3) and cap in (0, 1, 3)
                self.assertIs(is_writer(("x", ((0, "a", 0),), patience, cap)), expected)

    def test_odd_names_and_signs(self):
        for name in ("", "Ann", "abcdefg", "a b", "a1"):
            self.assertIs(is_writer((name, (), 0, 0)), False)
        for sign in ("", "A", "ab", "1", " "):
            self.assertIs(is_writer(("x", ((0, sign, 0),), 0, 0)), False)
            self.assertIs(is_writer(("x", ((0, "a", 0), (1, sign, 0)), 0, 0)), False)

    def test_tuples_of_another_count(self):
        for thing in ((), ("ann",), ANN[:2], ANN[:3], ANN + (0,), ANN + ANN, (1, 2, 3), ("x",) * 5):
            with self.subTest(thing):
                self.assertIs(is_writer(thing), False)

    def test_the_handed_tuple_stays(self):
        arrows = ((0, "a", 1), (1, "b", 0))
        thing = ("ann", arrows, 2, 0)
        self.assertIs(is_writer(thing=thing), True)
        self.assertEqual(sheds(writer=thing), [])
        self.assertEqual(writer_text(writer=thing), "ann/0a1;1b0/2/0")
        self.assertEqual(thing, ANN)
        self.assertIs(thing[1], arrows)


class Sheds(unittest.TestCase):

    def test_by_hand(self):
        for text, expected in (
            ("x/-/0/0", [0]),
            ("x/0a0/0/0", []),
            ("x/0a1/0/0", [1]),
            ("x/0a2/0/0", [2]),
            ("x/0a1;1b0/0/0", []),
            ("x/0a1;1b2/0/0", [2]),
            ("x/0a2;2b1/0/0", [1]),
            ("x/0a1;0b2/0/0", [1, 2]),
            ("x/0a2;0b1/0/0", [1, 2]),
            ("x/0a1;0b2;1a1/0/0", [2]),
            ("x/0a1;1a2;2a0/0/0", []),
            # No arrow leads from 0 on to a place that has others.
            ("x/1a2/0/0", [0]),
            ("x/1a0;1b2;2a1/0/0", [0]),
            ("x/0a0;1a2/0/0", []),
            ("x/0a1;2a0;2b2/0/0", [1]),
            ("x/2a0/3/3", [0]),
        ):
            with self.subTest(text):
                self.assertEqual(sheds(read_writer(text)), expected)

    def test_all_writers_of_one_sign(self):
        # Each place has no arrow, or one to any place.
        for leads in itertools.product((None, 0, 1, 2), repeat=3):
            arrows = tuple((place, "a", to) for place, to in enumerate(leads) if to is not None)
            walk = [0]
            while leads[walk[-1]] is not None and len(walk) < 5:
                walk.append(leads[walk[-1]])
            expected = [walk[-1]] if leads[walk[-1]] is None else []
            with self.subTest(leads):
                self.assertEqual(sheds(("x", arrows, 0, 0)), expected)

    def test_a_told_list_is_a_new_one(self):
        told = sheds(("x", (), 0, 0))
        told.append(7)
        self.assertEqual(sheds(("x", (), 0, 0)), [0])


class Texts(unittest.TestCase):

    def refused(self, text):
        with self.assertRaises(BadText) as caught:
            read_writer(text)
        self.assertEqual((caught.exception.at, caught.exception.word), (0, "BadText"))

    def test_by_hand(self):
        self.assertEqual(writer_text(ANN), "ann/0a1;1b0/2/0")
        self.assertEqual(read_writer("ann/0a1;1b0/2/0"), ANN)
        self.assertEqual(writer_text(("b", (), 0, 3)), "b/-/0/3")
        self.assertEqual(read_writer(text="b/-/0/3"), ("b", (), 0, 3))
        self.assertEqual(read_writer("x/2z2/3/3"), ("x", ((2, "z", 2),), 3, 3))

    def test_there_and_back(self):
        for chance in chances(200):
            writer = some_writer(chance, "abcdef"[:chance.randrange(1, 7)], signs="amz")
            with self.subTest(writer):
                self.assertEqual(read_writer(writer_text(writer)), writer)

    def test_needless_noughts_and_odd_numbers(self):
        for text in (
            "ann/0a1/00/0", "ann/0a1/0/00", "ann/00a1/0/0", "ann/0a01/0/0", "ann/0a1/-0/0", "ann/0a1/02/0",
            "ann/0a1/+1/0", "ann/0a1/ 1/0", "ann/0a1/0/0 ", "ann/0a1/1_0/0", "ann/0a1//0", "ann/0a1/0/",
        ):
            with self.subTest(text):
                self.refused(text)

    def test_none_is_written_by_one_stroke(self):
        for text in (
            "ann//0/0", "ann/--/0/0", "ann/-;-/0/0", "ann/-;0a1/0/0", "ann/0a1;-/0/0", "ann/ /0/0",
            "ann/;/0/0", "ann/0a1;/0/0", "ann/;0a1/0/0", "ann/0a1;;1a1/0/0",
        ):
            with self.subTest(text):
                self.refused(text)

    def test_texts_whose_writer_is_none(self):
        for text in (
            "/-/0/0", "Ann/-/0/0", "abcdefg/-/0/0", "a1/-/0/0", "ann/0a3/0/0", "ann/3a0/0/0", "ann/0A0/0/0",
            "ann/010/0/0", "ann/-/4/0", "ann/-/0/4", "ann/-/9/9", "ann/1a0;0a0/0/0", "ann/0b0;0a0/0/0",
            "ann/0a0;0a1/0/0", "ann/0a0;0a0/0/0", "ann/-/-1/0", "ann/-/0/10",
            "ann/" + ";".join(f"{place}{sign}0" for place in range(3) for sign in "abcd") + "/0/0",
            "ann/" + ";".join(f"{place}{sign}0" for place in range(2) for sign in "abcde") + "/0/0",
        ):
            with self.subTest(text):
                self.refused(text)

    def test_nine_arrows_are_read(self):
        text = "ann/" + ";".join(f"{place}{sign}0" for place in range(3) for sign in "abc") + "/0/0"
        self.assertEqual(read_writer(text), ("ann", NINE, 0, 0))
        self.assertEqual(writer_text(("ann", NINE, 0, 0)), text)

    def test_other_texts(self):
        for text in ("", "/", "///", "////", "ann", "ann/-/0", "ann/-/0/0/", "/ann/-/0/0", "\nann/-/0/0",
                     "ann/-/0/0\n", "ann/-/0/0\nann/-/0/0", "ann -/0/0", "-", "a" * 9000, "/" * 9000,
                     "ann/" + "0a1;" * 2000 + "/0/0", "ann/-/" + "1" * 8000 + "/0"):
            with self.subTest(text[:20]):
                self.refused(text)

    def test_a_sign_out_in_twice_or_exchanged(self):
        # What is read must be written as it stood; all else is refused.
        chance = random.Random(5)
        texts = ["ann/0a1;1b0/2/0", "b/-/0/3", "xyz/0a2;0b1;2c0/1/1"]
        read = 0
        for text, at in [(text, at) for text in texts for at in range(len(text))]:
            changed = [text[:at] + text[at + 1:], text[:at] + text[at] + text[at:]]
            for odd in "/;-0a3 \nA":
                changed += [text[:at] + odd + text[at:], text[:at] + odd + text[at + 1:]]
            other = chance.randrange(len(text))
            row = list(text)
            row[at], row[other] = row[other], row[at]
            for written in changed + ["".join(row)]:
                read += self.same_or_refused(written)
        self.assertGreater(read, 0)

    def same_or_refused(self, written):
        try:
            writer = read_writer(written)
        except BadText as refusal:
            self.assertEqual(refusal.at, 0)
            self.assertFalse(self.is_plainly_one(written), written)
            return 0
        self.assertTrue(is_writer(writer))
        self.assertEqual(writer_text(writer), written)
        return 1

    def is_plainly_one(self, written):
        """Whether one of the writers with at most three arrows is so written (seen part by part)."""
        parts = written.split("/")
        if len(parts) != 4 or parts[2] not in list("0123") or parts[3] not in list("0123"):
            return False
        if not (0 < len(parts[0]) < 7 and all(letter in "abcdefghijklmnopqrstuvwxyz" for letter in parts[0])):
            return False
        arrows = parts[1].split(";")
        known = {f"{p}{s}{to}" for p in range(3) for s in "abcdefghijklmnopqrstuvwxyz" for to in range(3)}
        heads = [arrow[:2] for arrow in arrows]
        return parts[1] == "-" or (all(arrow in known for arrow in arrows) and heads == sorted(set(heads)))


if __name__ == "__main__":
    unittest.main()
