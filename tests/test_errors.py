"""The refusals: their words, their fields, and what they stand under."""

import unittest

from whoseink import errors

FIELDS = {
    "InkError": None,
    "BadWriter": "at",
    "BadStep": "at",
    "BadSaid": "at",
    "BadSign": None,
    "BadName": None,
    "BadNumber": None,
    "BadDeed": None,
    "BadText": "at",
    "Taken": "name",
    "Full": None,
    "TooMany": "most",
    "Still": "strip",
    "Unwritten": "at",
    "Clash": None,
    "Broken": "at",
    "Missing": None,
    "NoName": "name",
    "NoSign": "at",
    "NoSaid": "number",
    "NoWatch": "at",
    "NothingLeft": None,
}
UNDER_MISSING = ("NoName", "NoSign", "NoSaid", "NoWatch")
SAMPLES = {"at": 3, "name": "ann", "most": 60, "strip": ("a", "b"), "number": 5}


def straight_above(word):
    """The class under which the document puts that one."""
    if word == "InkError":
        return ValueError
    if word == "Missing":
        return LookupError
    if word == "NothingLeft":
        return IndexError
    return errors.Missing if word in UNDER_MISSING else errors.InkError


def made(word):
    """A refusal of that class."""
    refusal = getattr(errors, word)
    return refusal() if FIELDS[word] is None else refusal(SAMPLES[FIELDS[word]])


class Refusals(unittest.TestCase):

    def test_all_are_there_and_no_others(self):
        found = [name for name, thing in vars(errors).items() if isinstance(thing, type)]
        self.assertEqual(sorted(found), sorted(FIELDS))

    def test_word_is_the_name_of_the_class(self):
        for word in FIELDS:
            with self.subTest(word):
                self.assertEqual(made(word).word, word)

    def test_fields(self):
        for word, field in FIELDS.items():
            with self.subTest(word):
                told = {} if field is None else {field: SAMPLES[field]}
                self.assertEqual(vars(made(word)), {"word": word, **told})

    def test_each_stands_straight_under_its_class(self):
        for word in FIELDS:
            with self.subTest(word):
                self.assertEqual(getattr(errors, word).__bases__, (straight_above(word),))

    def test_none_stands_under_another(self):
        for word in FIELDS:
            for other in FIELDS:
                refusal, above = getattr(errors, word), getattr(errors, other)
                under = refusal is above or straight_above(word) is above
                with self.subTest(word=word, other=other):
                    self.assertEqual(issubclass(refusal, above), under)

    def test_kinds_of_python_errors(self):
        kinds = (ValueError, LookupError, IndexError, KeyError)
        for word in FIELDS:
            refusal = getattr(errors, word)
            if word == "Missing" or word in UNDER_MISSING:
                expected = [False, True, False, False]
            elif word == "NothingLeft":
                expected = [False, True, True, False]
            else:
                expected = [True, False, False, False]
            with self.subTest(word):
                self.assertEqual([issubclass(refusal, kind) for kind in kinds], expected)

    def test_message_is_a_text(self):
        for word in FIELDS:
            self.assertIsInstance(str(made(word)), str)


if __name__ == "__main__":
    unittest.main()
