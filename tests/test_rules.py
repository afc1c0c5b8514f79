"""The language rules: the package keeps what a script can see of them, and the script sees it."""

import ast
import pathlib
import tempfile
import unittest

from tests.operators import operator_faults
from tests.rules import between_files, faults_in, faults_of, names_between

PACKAGE = pathlib.Path(__file__).resolve().parent.parent / "idlewrites"

# Each of these breaks the rule that stands ahead of it.
BROKEN = [
    ("L2", "import idlewrites\n"),
    ("L2", "from sys import argv\n"),
    ("L2", "from .errors import BadLot\n"),
    ("L2", "from idlewrites.errors import *\n"),
    ("L2", "from math import sqrt\n"),
    ("L2", "from math import gcd as g\n"),
    ("L2", "X = 1\nfrom idlewrites.errors import BadLot\n"),
    ("L2", "def f():\n    from idlewrites.errors import BadLot\n"),
    ("L3", "X, Y = 1, 2\n"),
    ("L3", "X = len([])\n"),
    ("L3", "X = [k for k in (1, 2)]\n"),
    ("L3", "X = 1\nY = (X, 2)\n"),
    ("L3", "from idlewrites.rows import EMPTY\nX = {\"a\": (EMPTY,)}\n"),
    ("L3", "X = (f,)\n\n\ndef f():\n    pass\n"),
    ("L3", "for x in (1, 2):\n    pass\n"),
    ("L3", "print(1)\n"),
    ("L4", "@wrapped\ndef f():\n    pass\n"),
    ("L4", "def f(xs=[]):\n    pass\n"),
    ("L4", "def f(xs=len(())):\n    pass\n"),
    ("L5", "def f():\n    class Inner:\n        pass\n"),
    ("L5", "class A:\n    def __hash__(self):\n        return 1\n"),
    ("L5", "class A:\n    def __getitem__(self, at):\n        return at\n"),
    ("L5", "class A:\n    def __lt__(self, other):\n        return True\n"),
    ("L5", "class A:\n    xs = []\n"),
    ("L5", "def f(x):\n    return x.__dict__\n"),
    ("L6", "def f():\n    global x\n"),
    ("L6", "async def f():\n    pass\n"),
    ("L6", "def f(x):\n    x == 1\n"),
    ("L6", "def f(x:\n"),
    ("L6", "def f(x):\n    return x / 2\n"),
    ("L6", "def f(x):\n    del x.rows\n"),
    ("L7", "def f():\n    return 1.5\n"),
    ("L7", "def f():\n    return ...\n"),
    ("L7", "def f(xs):\n    return any(x for x in xs)\n"),
    ("L8", "def f(x):\n    return hash(x)\n"),
    ("L8", "def f(x):\n    return unknown(x)\n"),
    ("L8", "def f(x):\n    return \"{}\".format(x)\n"),
    ("L10", "def f():\n" + "    pass\n" * 40),
    ("L10", "# " + "x" * 120 + "\n"),
    ("L10", "# x\n" * 400),
    ("L12", "def f():\n    __x = 1\n"),
    ("L12", "def f():\n    _ = 1\n    return _\n"),
    ("L12", "class _Hidden:\n    pass\n"),
    ("L12", "def f():\n    _record1 = 1\n"),
    ("L14", "# \u00e4\n"),
    ("L14", "def f():\n\tpass\n"),
    ("L15", "X = 1\nX = 2\n"),
    ("L15", "X = [[1]]\n"),
    ("L15", "from idlewrites.errors import BadLot\n\n\ndef f(BadLot):\n    pass\n"),
    ("L15", "def f(list):\n    pass\n"),
    ("L15", "def f():\n    hash = 1\n"),
    ("L17", "def f(open):\n    pass\n"),
    ("L17", "def f():\n    return \"an enum\"\n"),
    ("L17", "# (type)\n"),
    ("L18", "class A:\n    def x(self):\n        pass\n\n    def x(self):\n        pass\n"),
    ("L18", "class A:\n    def __init__(self):\n        self.x = 1\n\n    def x(self):\n        pass\n"),
    ("L19", "def f():\n    try:\n        pass\n    except:\n        pass\n"),
    ("L19", "def f():\n    try:\n        pass\n    except Exception:\n        pass\n"),
    ("L19", "def f(x):\n    raise x\n"),
    ("L19", "def f(x):\n    raise x.wrong()\n"),
    ("L20", "def f(x, y):\n    return x is y\n"),
    ("L21", "def f(x: int):\n    pass\n"),
    ("L22", "def f(xs):\n    return sorted(xs, key=len, cmp=1)\n"),
    ("L22", "def f(xs):\n    g = len\n    return g(xs)\n"),
    ("L23", "def f(xs):\n    ys = zip(xs, xs)\n    return ys\n"),
    ("L23", "def f(d):\n    return d.items()\n"),
    ("L23", "def f(xs):\n    for x in xs:\n        xs.append(x)\n"),
    ("L23", "def f(d):\n    for k, v in d.items():\n        d[k] = v\n"),
    ("L24", "def f(xs):\n    return set(xs)\n"),
    ("L24", "def f(xs):\n    for x in {1, 2}:\n        pass\n"),
    ("L25", "def f(x):\n    return x.isupper().nothing()\n"),
    ("L26", "def f(x):\n    x.items = 1\n"),
    ("L27", "def f():\n    return \"5%\"\n"),
    ("L27", "def f():\n    return \"\\x41\"\n"),
    ("L27", "def f(n):\n    return 2 ** n\n"),
    ("L27", "def f():\n    return \"__odd__\"\n"),
    ("L28", "class A:\n    def __init__(self):\n        return None\n\n    def __len__(self):\n        return self.n\n"),
]

# Each of these breaks L5 Operators in what an operator reaches, if its attribute is stored in the other file.
IMPURE = [
    "class A:\n    def __len__(self):\n        return self.told([])\n\n    def told(self, xs):\n        xs.append(1)\n",
    "class A:\n    def __neg__(self):\n        self.x = 1\n",
    "class A:\n    def __neg__(self):\n        return f(self)\n\n\ndef f(a):\n    a.x = 1\n",
    "class A:\n    def __or__(self, other):\n        return self.rows.index(other)\n",
    "class A:\n    def __or__(self, other):\n        return A([])\n\n    def __init__(self, xs):\n        f(xs)\n\n\n"
    "def f(xs):\n    return xs.index(1)\n",
    "class A:\n    def __neg__(self):\n        return f(self, len)\n\n\ndef f(a, g):\n    return g(a)\n",
    "class A:\n    def __neg__(self):\n        return self.rows[0]()\n",
    "class A:\n    def __neg__(self):\n        xs = self.rows\n        xs.append(1)\n",
    "class A:\n    def __neg__(self):\n        xs = {x: x for x in self.rows}\n        xs[1] = 1\n",
    "class A:\n    def __neg__(self):\n        xs = []\n        xs = self.rows\n        xs[1] = 1\n",
    "class A:\n    @property\n    def many(self):\n        self.rows.clear()\n",
]

PURE = '''
class A:
    def __init__(self, rows):
        self.rows = list(rows)

    def __or__(self, other):
        return A(joined(self.rows, other.rows))

    def tell(self):
        self.rows.append(self.rows.index(1))


def joined(rows, others):
    found = []
    for row in rows:
        found.append(row)
    found.extend(others)
    return found


def more(rows):
    rows.append(1)
'''

RIGHT = '''"""A file that keeps the rules."""

from idlewrites.errors import BadLot
from idlewrites.kinds import is_list

LIMIT = 7
TABLE = {"a": (1, 2), "b": ()}


def first(rows):
    """Tell the first row."""
    return rows[0]


FIRSTS = (first, 1)


class Box:
    """A box."""

    def __init__(self, rows):
        self.rows = list(rows)

    def __len__(self):
        return len(self.rows)

    def __eq__(self, other):
        return isinstance(other, Box) and self.rows == other.rows


def told(things, more=-1):
    """Tell something."""
    if not is_list(things) or len(set(things)) < LIMIT:
        raise BadLot(more)
    known = {}
    for index, thing in enumerate(things):
        known[thing] = index
    return [index for thing, index in known.items() if thing in TABLE and index is not None]
'''


class Rules(unittest.TestCase):
    def test_the_package_keeps_the_rules(self):
        self.assertEqual(faults_in(PACKAGE), [])

    def test_what_breaks_a_rule_is_seen(self):
        for rule, source in BROKEN:
            with self.subTest(rule, source=source):
                self.assertIn(rule, [fault[0] for fault in faults_of(source)])

    def test_what_keeps_the_rules_is_let_through(self):
        self.assertEqual(faults_of(RIGHT), [])

    def test_imports_between_files(self):
        round_about = {
            "one": ast.parse("from idlewrites.two import f\n\n\ndef g():\n    f()\n"),
            "two": ast.parse("from idlewrites.one import g\n\n\ndef f():\n    g()\n"),
        }
        self.assertEqual([fault[:2] for fault in between_files(round_about)], [("one", "L16"), ("two", "L16")])
        handed_on = {
            "one": ast.parse("X = 1\n"),
            "two": ast.parse("from idlewrites.one import X\n"),
            "three": ast.parse("from idlewrites.two import X\n"),
        }
        self.assertEqual(between_files(handed_on), [("three", "L16", 1, "X is not defined there")])

    def test_names_that_mean_two_things(self):
        steps = "def steps(xs):\n    for x in xs:\n        yield x\n\n\n"
        kept = ast.parse(steps + "def f(xs):\n    for x in steps(xs):\n        pass\n    return list(steps(xs))\n")
        self.assertEqual(names_between({"one": kept}), [])
        for rule, source in (
            ("L18", "class A:\n    def x(self):\n        pass\n\n\nclass B:\n    def __init__(self):\n        self.x = 1\n"),
            ("L5", "class A:\n    @classmethod\n    def x(cls):\n        pass\n\n\ndef x():\n    pass\n"),
            ("L5", "class A:\n    @staticmethod\n    def find():\n        pass\n"),
            ("L23", steps + "class A:\n    def steps(self):\n        pass\n"),
            ("L23", steps + "def f(a):\n    a.steps = 1\n"),
            ("L23", steps + "def f():\n    return steps\n"),
            ("L23", steps + "def f(xs):\n    return steps(xs)\n"),
            ("L23", steps + "def f(xs):\n    return len(steps(xs))\n"),
            ("L23", steps + "def f(xs):\n    for x in steps(f(xs)):\n        pass\n"),
            ("L23", "class A:\n    def split(self, xs):\n        yield xs\n"),
        ):
            with self.subTest(source=source):
                self.assertIn(rule, [fault[1] for fault in names_between({"one": ast.parse(source)})])

    def test_what_operators_reach(self):
        other = ast.parse("class Bad:\n    def __init__(self, index):\n        self.index = index\n")
        for source in IMPURE:
            with self.subTest(source=source):
                faults = operator_faults({"one": ast.parse(source), "two": other})
                self.assertEqual([fault[:2] for fault in faults], [("one", "L5")])
        self.assertEqual(operator_faults({"one": ast.parse(PURE), "two": other}), [])
        apart = "from idlewrites.one import f\n\n\nclass A:\n    def __neg__(self):\n        return f(self.rows)\n"
        for body, many in (("    xs.append(1)\n", 1), ("    return xs.index(1)\n", 1), ("    return xs.count(1)\n", 0)):
            trees = {"one": ast.parse("def f(xs):\n" + body), "two": ast.parse(apart), "three": other}
            self.assertEqual([fault[0] for fault in operator_faults(trees)], ["one"] * many)

    def test_files_of_the_package(self):
        with tempfile.TemporaryDirectory() as folder:
            for name in ("__init__.py", "good.py", "test_x.py", "notes.txt", "len.py", "Big.py"):
                (pathlib.Path(folder) / name).write_text("", encoding="utf-8")
            faults = faults_in(folder)
        self.assertEqual([fault[0] for fault in faults], ["Big.py", "len.py", "notes.txt", "test_x.py"])


if __name__ == "__main__":
    unittest.main()
