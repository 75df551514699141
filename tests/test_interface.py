"""The names, arguments and files of the interface, and the sizes that the language sets."""

import ast
import importlib
import inspect
import pathlib
import unittest

PACKAGE = pathlib.Path(__file__).resolve().parent.parent / "whoseink"
FUNCTIONS = {
    "writers": {
        "is_name": "(text)", "is_sign": "(text)", "is_writer": "(thing)", "sheds": "(writer)",
        "writer_text": "(writer)", "read_writer": "(text)",
    },
    "companies": {"carried": "(one, other, stand)"},
    "tellings": {
        "how_many": "(scroll)", "telling": "(scroll, *, number=0)", "number_of": "(scroll, names)",
        "is_telling": "(scroll, names)", "may": "(scroll, at)", "must": "(scroll, at)",
        "extreme": "(scroll, name, *, most=True)", "farthest": "(scroll, names)",
    },
    "papers": {"bar": "(scroll, at, name)", "is_bar": "(scroll, at, name, forth, live)"},
    "delays": {
        "twice": "(company, *, stamps=())", "delay": "(company, *, who=None, stamps=())",
        "is_known": "(company, n, pairs, ranks, *, who=None, stamps=())",
        "is_doubt": "(company, strip, one, other, many, *, who=None, stamps=())",
        "is_ever": "(company, at, lead, ring, one, other, *, who=None, stamps=())",
    },
    "settling": {
        "settle": "(scroll, at)", "settles": "(scroll, at, signs)", "is_never": "(scroll, at, table)",
    },
    "stamps": {
        "cheapest": "(company, prices, *, most=0)",
        "is_cheapest": "(company, prices, kinds, shown, *, most=0)",
    },
    "likeness": {"likeness": "(one, other)", "is_same": "(one, other, pairs)"},
    "places": {
        "fewest": "(scroll)", "tells_all": "(scroll, lot)", "is_fewest": "(scroll, lot, pairs)",
    },
    "clashes": {
        "let_go": "(scroll)", "breaks": "(scroll, names)", "is_least": "(scroll, number, names, sums)",
    },
}
METHODS = {
    ("companies", "Company"): {
        "__init__": "(self, writers=())", "writers": "(self)", "names": "(self)", "begin": "(self)",
        "steps": "(self, stand)", "stands": "(self)", "leaves": "(self, strip)", "still": "(self)",
        "__eq__": "(self, other)", "__len__": "(self)", "__repr__": "(self)", "__str__": "(self)",
    },
    ("scrolls", "Scroll"): {
        "__init__": "(self, company, *, steps=(), said=())", "signs": "(self)", "company": "(self, at)",
        "said": "(self)", "lets": "(self, at, name)", "forth": "(self)", "live": "(self)",
        "more": "(self, steps)", "__len__": "(self)",
    },
}


class Interface(unittest.TestCase):

    def test_functions(self):
        for file, rows in FUNCTIONS.items():
            module = importlib.import_module(f"whoseink.{file}")
            for name, expected in rows.items():
                with self.subTest(name):
                    told = getattr(module, name)
                    self.assertEqual((str(inspect.signature(told)), told.__module__), (expected, module.__name__))

    def test_methods_stand_in_the_class_itself(self):
        for (file, word), rows in METHODS.items():
            told = getattr(importlib.import_module(f"whoseink.{file}"), word)
            self.assertEqual(told.__module__, f"whoseink.{file}")
            for name, expected in rows.items():
                with self.subTest(name):
                    self.assertEqual(str(inspect.signature(vars(told)[name])), expected)


class Files(unittest.TestCase):

    def test_sizes_and_characters(self):
        for path in sorted(PACKAGE.glob("*.py")):
            text = path.read_text(encoding="utf-8")
            with self.subTest(path.name):
                self.assertLess(len(text.splitlines()), 400)
                self.assertLessEqual(max(len(line) for line in text.splitlines()), 120)
                self.assertTrue(all(sign == "\n" or " " <= sign <= "~" for sign in text))
                self.assertNotIn("%", text)
                for node in ast.walk(ast.parse(text)):
                    if isinstance(node, ast.FunctionDef):
                        self.assertLessEqual(node.end_lineno - node.lineno + 1, 40, node.name)

    def test_imports(self):
        for path in sorted(PACKAGE.glob("*.py")):
            for node in ast.walk(ast.parse(path.read_text(encoding="utf-8"))):
                self.assertNotIsInstance(node, ast.Import)
                if isinstance(node, ast.ImportFrom) and node.module not in ("heapq", "math", "itertools"):
                    home = importlib.import_module(node.module)
                    self.assertTrue(node.module.startswith("whoseink."))
                    for each in node.names:
                        told = getattr(home, each.name)
                        self.assertEqual(getattr(told, "__module__", node.module), node.module)


if __name__ == "__main__":
    unittest.main()
