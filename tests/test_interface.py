"""The names, arguments and files of the interface, and the sizes that the language sets."""

import ast
import importlib
import inspect
import pathlib
import unittest

PACKAGE = pathlib.Path(__file__).resolve().parent.parent / "whoseink"
FUNCTIONS = {
    "writers": {
        "is_name": "(text)", "is_sign": "(text)", "is_writer": "(thing)", "sheds": "(writer)",
        "writer_text": "(writer)", "read_writer": "(text)",
    },
    "companies": {"carried": "(one, other, stand)"},
    "tellings": {
        "how_many": "(scroll)", "telling": "(scroll, *, number=0)", "number_of": "(scroll, names)",
        "is_telling": "(scroll, names)", "may": "(scroll, at)", "must": "(scroll, at)",
        "extreme": "(scroll, name, *, most=True)", "farthest": "(scroll, names)",
    },
    "papers": {"bar": "(scroll, at, name)", "is_bar": "(scroll, at, name, forth, live)"},
    "delays": {
        "twice": "(company, *, stamps=())", "delay": "(company, *, who=None, stamps=())",
        "is_known": "(company, n, pairs, ranks, *, who=None, stamps=())",
        "is_doubt": "(company, strip, one, other, many, *, who=None, stamps=())",
        "is_ever": "(company, at, lead, ring, one, other, *, who=None, stamps=())",
    },
    "settling": {
        "settle": "(scroll, at)", "settles": "(scroll, at, signs)", "is_never": "(scroll, at, table)",
    },
    "stamps": {
        "cheapest": "(company, prices, *, most=0)",
        "is_cheapest": "(company, prices, kinds, shown, *, most=0)",
    },
    "likeness": {"likeness": "(one, other)", "is_same": "(one, other, pairs)"},
    "places": {
        "fewest": "(scroll)", "tells_all": "(scroll, lot)", "is_fewest": "(scroll, lot, pairs)",
    },
    "clashes": {
        "let_go": "(scroll)", "breaks": "(scroll, names)", "is_least": "(scroll, number, names, sums)",
    },
    "deeds": {"need_deed": "(deed)", "deed_text": "(deed)", "read_deed": "(text)"},
    "pages": {"page": "(bench)", "read_page": "(text)"},
}
METHODS = {
    ("companies", "Company"): {
        "__init__": "(self, writers=())", "writers": "(self)", "names": "(self)", "begin": "(self)",
        "steps": "(self, stand)", "stands": "(self)", "leaves": "(self, strip)", "still": "(self)",
        "__eq__": "(self, other)", "__len__": "(self)", "__repr__": "(self)", "__str__": "(self)",
    },
    ("scrolls", "Scroll"): {
        "__init__": "(self, company, *, steps=(), said=())", "signs": "(self)", "company": "(self, at)",
        "said": "(self)", "lets": "(self, at, name)", "forth": "(self)", "live": "(self)",
        "more": "(self, steps)", "__len__": "(self)",
    },
    ("bench", "Bench"): {
        "__init__": "(self)", "do": "(self, deed)", "batch": "(self, deeds)",
        "come": "(self, name, *, arrows=(), patience=0, cap=0)", "sign": "(self, sign)",
        "said": "(self, at, name, *, so=True)", "undo": "(self)", "redo": "(self)", "deeds": "(self)",
        "undone": "(self)", "known": "(self, count)", "twin": "(self)", "scroll": "(self)", "company": "(self)",
        "confessions": "(self)", "may": "(self, at)", "many": "(self)", "lots": "(self)", "watches": "(self)",
        "watched": "(self, at)", "notes": "(self)", "kept": "(self)", "made": "(self)", "__len__": "(self)",
        "__eq__": "(self, other)", "__repr__": "(self)", "__str__": "(self)",
    },
    ("desk", "Desk"): {"__init__": "(self, *, table=None)", "bench": "(self)", "say": "(self, line)"},
}

BOUNDS = {
    "writers": {"MOST_ARROWS": 9, "MOST_COUNT": 3}, "companies": {"MOST_WRITERS": 3, "MOST_STANDS": 60},
    "scrolls": {"MOST_SIGNS": 24, "MOST_TURNS": 12}, "settling": {"MOST_TUPLES": 600}, "places": {"MOST_PLACES": 8},
}


class Interface(unittest.TestCase):

    def test_functions(self):
        for file, rows in FUNCTIONS.items():
            module = importlib.import_module(f"whoseink.{file}")
            for name, expected in rows.items():
                with self.subTest(name):
                    told = getattr(module, name)
                    self.assertEqual((str(inspect.signature(told)), told.__module__), (expected, module.__name__))

    def test_methods_stand_in_the_class_itself(self):
        for (file, word), rows in METHODS.items():
            told = getattr(importlib.import_module(f"whoseink.{file}"), word)
            self.assertEqual(told.__module__, f"whoseink.{file}")
            for name, expected in rows.items():
                with self.subTest(name):
                    self.assertEqual(str(inspect.signature(vars(told)[name])), expected)


    def test_bounds(self):
        for file, rows in BOUNDS.items():
            module = importlib.import_module(f"whoseink.{file}")
            self.assertEqual({name: getattr(module, name) for name in rows}, rows)


class Files(unittest.TestCase):

    def test_sizes_and_characters(self):
        for path in sorted(PACKAGE.glob("*.py")):
            text = path.read_text(encoding="utf-8")
            with self.subTest(path.name):
                self.assertLess(len(text.splitlines()), 400)
                self.assertLessEqual(max(len(line) for line in text.splitlines()), 120)
                self.assertTrue(all(sign == "\n" or " " <= sign <= "~" for sign in text))
                self.assertNotIn("%", text)
                for node in ast.walk(ast.parse(text)):
                    if isinstance(node, ast.FunctionDef):
                        self.assertLessEqual(node.end_lineno - node.lineno + 1, 40, node.name)

    def test_imports(self):
        for path in sorted(PACKAGE.glob("*.py")):
            for node in ast.walk(ast.parse(path.read_text(encoding="utf-8"))):
                self.assertNotIsInstance(node, ast.Import)
                # No clock, no chance, no files: of what isn't its own the package has these alone.
                if isinstance(node, ast.ImportFrom) and node.module not in ("heapq", "math", "itertools"):
                    home = importlib.import_module(node.module)
                    self.assertTrue(node.module.startswith("whoseink."))
                    for each in node.names:
                        told = getattr(home, each.name)
                        self.assertEqual(getattr(told, "__module__", node.module), node.module)


if __name__ == "__main__":
    unittest.main()
