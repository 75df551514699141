"""That each range, zip, view and the like of the package is iterated where it stands."""

import ast
import pathlib
import unittest

PACKAGE = pathlib.Path(__file__).resolve().parent.parent / "whoseink"
MAKERS = ("range", "zip", "enumerate", "reversed", "map")
VIEWS = ("items", "keys", "values")
# They take such a thing as their first argument; min and max as their only one.
TAKERS = ("list", "tuple", "dict", "sorted", "sum", "any", "all", "enumerate", "zip", "bytes")
PRODUCTS = ("product", "combinations", "permutations")


def called(node):
    """The bare name that is called, or None."""
    return node.func.id if isinstance(node, ast.Call) and isinstance(node.func, ast.Name) else None


def is_view(node):
    return isinstance(node, ast.Call) and isinstance(node.func, ast.Attribute) and node.func.attr in VIEWS


def takes(call, node):
    """Whether a call iterates over this argument at once."""
    if isinstance(call.func, ast.Attribute):
        return call.func.attr == "join" and isinstance(call.func.value, ast.Constant)
    name, first = called(call), call.args[:1] == [node]
    if name in ("min", "max"):
        return call.args == [node]
    if name == "len":
        return is_view(node) or called(node) == "range"
    if name == "reversed":
        return called(node) == "range"
    # Of two rows a zip or a product goes over the second at once too.
    return name in TAKERS and first or name in ("zip", "product") and node in call.args or name in PRODUCTS and first


def on_the_spot(above, node):
    if isinstance(above, (ast.For, ast.comprehension)):
        return above.iter is node
    if isinstance(above, ast.Compare):
        plain = above.left is not node and all(isinstance(sign, (ast.In, ast.NotIn)) for sign in above.ops)
        return plain and (called(node) == "range" or is_view(node) and node.func.attr == "keys")
    return isinstance(above, ast.Call) and takes(above, node)


def handed_on(text):
    """The rows of a file at which such a thing is kept, told or handed on, instead of gone over."""
    return sorted([
        node.lineno
        for above in ast.walk(ast.parse(text)) for node in ast.iter_child_nodes(above)
        if (called(node) in MAKERS or is_view(node)) and not on_the_spot(above, node)
    ])


class Spot(unittest.TestCase):

    def test_package(self):
        paths = sorted(PACKAGE.rglob("*.py"))
        self.assertIn("stamps.py", [path.name for path in paths])
        for path in paths:
            with self.subTest(path.name):
                self.assertEqual(handed_on(path.read_text(encoding="utf-8")), [])

    def test_what_is_found(self):
        for row in (
            "f(xs, range(len(xs)))", "f(xs, at=range(3))", "f(zip(xs, ys))", "f(enumerate(xs))", "f(reversed(xs))",
            "f(d.items())", "f(d.keys())", "f(d.values())", "f(map(str, xs))", "box.told(range(3))",
            "rows.append(range(3))", "rows.extend(d.items())", "xs = range(3)", "xs = [zip(xs, ys)]",
            "xs = (1, d.items())", "xs = f(range(3) if k else ys)", "k = range(3) == ys", "k = ys == d.keys()",
            "k = x in d.values()", "k = x in zip(xs, ys)", "k = len(zip(xs, ys))", "xs = list(reversed(d.keys()))",
            "xs = min(ys, range(3))", "f(*range(3))", "k = set(d.values())", "k = range(3)[1]",
            "def f(xs):\n return reversed(xs)", "f = lambda xs: enumerate(xs)",
        ):
            with self.subTest(row):
                self.assertEqual(handed_on(row), [len(row.split("\n"))])

    def test_what_may_stand(self):
        for row in (
            "for k in range(3): pass", "xs = [k for k in range(3)]", "xs = {k: v for k, v in d.items()}",
            "xs = f(list(range(3)))", "xs = tuple(zip(xs, ys))", "xs = sorted(d.values(), key=len)",
            "k = sum(range(3))", "for at, (k, v) in enumerate(zip(xs, ys)): pass",
            "for at, k in enumerate(d.items()): pass", "k = max(d.values(), default=0)",
            "k = len(range(3)) + len(d.items())", "for k in reversed(range(3)): pass",
            "k = x in range(3) or x in d.keys()", "xs = [lot for lot in combinations(range(3), many)]",
            "k = ', '.join(map(str, xs))",
        ):
            with self.subTest(row):
                self.assertEqual(handed_on(row), [])


if __name__ == "__main__":
    unittest.main()
