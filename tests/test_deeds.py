"""Deeds: which tuples are such, and how they are written and read."""

import itertools
import unittest

from by_hand import chances, some_writer

from whoseink.deeds import deed_text, need_deed, read_deed
from whoseink.errors import BadDeed, BadText
from whoseink.writers import read_writer

ANN = read_writer("ann/0a1;1b0/2/0")
THIRTY = 10 ** 30 - 1
TEXTS = (
    (("come", ANN), "come ann/0a1;1b0/2/0"), (("come", ("bob", (), 0, 3)), "come bob/-/0/3"), (("leave", "ann"), "leave ann"),
    (("change", ANN), "change ann/0a1;1b0/2/0"), (("sign", "z"), "sign z"), (("said", 3, "ann"), "said 3 ann"),
    (("denied", 0, "abcdef"), "denied 0 abcdef"), (("unsay", 17), "unsay 17"), (("watch", 23), "watch 23"),
    (("unwatch", 10), "unwatch 10"), (("said", -1, "x"), "said -1 x"), (("unsay", THIRTY), "unsay " + "9" * 30),
    (("watch", -THIRTY), "watch -" + "9" * 30), (("unwatch", 10 ** 29), "unwatch 1" + "0" * 29), (("leave", "come"), "leave come"),
    (("said", 100, "said"), "said 100 said"),
)


class Needing(unittest.TestCase):

    def refused(self, deed):
        with self.assertRaises(BadDeed) as caught:
            need_deed(deed)
        self.assertEqual((type(caught.exception), caught.exception.word), (BadDeed, "BadDeed"))

    def test_deeds(self):
        for deed, _ in TEXTS:
            self.assertIsNone(need_deed(deed))
        self.assertIsNone(need_deed(deed=("sign", "a")))

    def test_what_the_things_are_is_not_asked(self):
        for deed in (("come", ()), ("sign", ""), ("sign", "AA"), ("said", -5, ""), ("leave", "two words"), ("change", ("x",))):
            self.assertIsNone(need_deed(deed))

    def test_one_thing_more_or_fewer(self):
        for deed, _ in TEXTS:
            for odd in (deed[:1], deed[:-1], (*deed, 0), (*deed, "ann"), (*deed, deed[-1]), deed * 2):
                self.refused(odd)

    def test_other_first_words(self):
        for word in ("", "Come", "comes", "com", " come", "come ", "come\n", "undo", "redo", "may", "many", "unsaid", "deny", "unwatched"):
            for things in ((), (0,), ("ann",), (ANN,), (0, "ann")):
                self.refused((word, *things))

    def test_the_empty_one(self):
        self.refused(())


class Texts(unittest.TestCase):

    def refused(self, text):
        with self.subTest(text):
            with self.assertRaises(BadText) as caught:
                read_deed(text)
            self.assertEqual((type(caught.exception), caught.exception.at, caught.exception.word), (BadText, 0, "BadText"))

    def test_there_and_back(self):
        for deed, text in TEXTS:
            self.assertEqual((deed_text(deed), read_deed(text)), (text, deed))
            self.assertEqual((deed_text(deed=deed), read_deed(text=text)), (text, deed))
            self.assertIsInstance(read_deed(text), tuple)

    def test_writers_there_and_back(self):
        for chance in chances(200):
            for word in ("come", "change"):
                deed = (word, some_writer(chance, "ann"))
                self.assertEqual(read_deed(deed_text(deed)), deed)

    def test_numbers(self):
        for word, behind in (("said", " ann"), ("denied", " x"), ("unsay", ""), ("watch", ""), ("unwatch", "")):
            for number in (0, 1, 9, 10, 11, 100, -1, -10, 10 ** 29, THIRTY, -THIRTY):
                self.assertEqual(read_deed(f"{word} {number}{behind}")[1], number)
            for odd in (
                "-0", "00", "01", "007", "+1", "+0", "-", "--1", "-01", "1-", "", "1.0", "1e3", "1_0", "0x1", "a", "1a", "1" * 31,
                "-" + "1" * 31, "0" * 31, "1,0", " 1", "\n1", "1\n", "None", "9" * 600,
            ):
                self.refused(f"{word} {odd}{behind}")

    def test_names_and_signs_that_are_none(self):
        for odd in ("", "Ann", "abcdefg", "a1", "a-b", "ann\n", "\nann", "a/b", "0"):
            for ahead in ("leave ", "said 0 ", "denied 0 "):
                self.refused(ahead + odd)
        for odd in ("", "A", "ab", "0", "-", "\n", "a\n"):
            self.refused("sign " + odd)

    def test_writers_that_are_none(self):
        for odd in (
            "", "ann", "ann/-/0", "ann/-/0/0/0", "Ann/-/0/0", "/-/0/0", "ann//0/0", "ann/-/4/0", "ann/-/0/4", "ann/-/00/0", "ann/-/-1/0",
            "ann/0a3/0/0", "ann/3a0/0/0", "ann/0A0/0/0", "ann/1a0;0a0/0/0", "ann/0a0;0a1/0/0", "ann/0a0;/0/0", "ann/0a0,1a0/0/0",
            "abcdefg/-/0/0", "ann/0a0;0b0;0c0;0d0;0e0;1a0;1b0;1c0;1d0;1e0/0/0",
        ):
            self.refused("come " + odd)
            self.refused("change " + odd)

    def test_a_blank_more_or_fewer(self):
        for _, text in TEXTS:
            for odd in (text + " ", " " + text, text.replace(" ", "  "), text.replace(" ", ""), text.replace(" ", "\n"), text + "\n",
                        "\n" + text, text + " ann", text.split(" ")[0], text.split(" ")[0] + " ", text.upper(), ""):
                self.refused(odd)

    def test_a_sign_out_in_twice_or_exchanged(self):
        known = {text: deed for deed, text in TEXTS}
        for _, text in TEXTS:
            texts = [text[:at] + text[at + 1:] for at in range(len(text))]
            texts += [text[:at] + odd + text[at:] for at in range(len(text) + 1) for odd in " -/0a;A\n"]
            texts += [text[:at] + odd + text[at + 1:] for at in range(len(text)) for odd in " -/0z;Z\n"]
            for odd in texts:
                try:
                    deed = read_deed(odd)
                except BadText as refusal:
                    self.assertEqual(refusal.at, 0)
                    continue
                # What is read at all is read as just the deed that is so written.
                self.assertIsNone(need_deed(deed))
                self.assertEqual((deed_text(deed), known.get(odd, deed)), (odd, deed))

    def test_other_words(self):
        for word, things in itertools.product(("", "Come", "undo", "redo", "may", "many", "sings", "unsaid"), ("", " 0", " ann", " 0 ann")):
            self.refused(word + things)


if __name__ == "__main__":
    unittest.main()
