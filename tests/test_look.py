"""The look at the package's files finds what is outside the rules, and lets pass what is within them."""

import importlib.util
import os
import unittest

ROOT = os.path.dirname(os.path.dirname(os.path.abspath(__file__)))
SPEC = importlib.util.spec_from_file_location("look", os.path.join(ROOT, ".ci", "look.py"))
LOOK = importlib.util.module_from_spec(SPEC)
SPEC.loader.exec_module(LOOK)

OUTSIDE = (
    ("L2", "import os\n"),
    ("L2", "from os import path\n"),
    ("L2", "from .sale import name\n"),
    ("L2", "from slicesale.sale import *\n"),
    ("L2", "def f():\n    from slicesale.sale import name\n    return name\n"),
    ("L3", "X = len([1])\n"),
    ("L3", "print(1)\n"),
    ("L3", "if True:\n    X = 1\n"),
    ("L4", "def f(*xs):\n    return xs\n"),
    ("L4", "def f(**xs):\n    return xs\n"),
    ("L4", "def f(a, *, b):\n    return a\n"),
    ("L4", "def g(f):\n    return f\n\n\n@g\ndef f():\n    return 1\n"),
    ("L5", "class A:\n    x = 1\n"),
    ("L5", "class A(ValueError, KeyError):\n    pass\n"),
    ("L6", "def f(x):\n    assert x\n"),
    ("L6", "def f(x):\n    del x\n"),
    ("L6", "def f(x):\n    a = b = x\n    return a + b\n"),
    ("L6", "def f(x):\n    for k in x:\n        pass\n    else:\n        return 1\n"),
    ("L6", "def f(x):\n    with x:\n        pass\n"),
    ("L6", "def f(x):\n    try:\n        x()\n    finally:\n        x()\n"),
    ("L7", "def f(x):\n    return x / 2\n"),
    ("L7", "def f(x):\n    return x + 0.5\n"),
    ("L7", "def f(x):\n    return any(k for k in x)\n"),
    ("L7", "def f(x):\n    return {k: k for k in x}\n"),
    ("L7", "def f(x):\n    return [k for row in x for k in row]\n"),
    ("L7", "def f(x):\n    return [*x]\n"),
    ("L7", "def f(x):\n    if (y := x):\n        return y\n"),
    ("L7", "def f():\n    return b''\n"),
    ("L8", "def f(x):\n    return hash(x)\n"),
    ("L8", "def f(x):\n    print(x)\n"),
    ("L8", "def f(x):\n    return chr(x)\n"),
    ("L8", "len = 3\n"),
    ("L10", "def f(x):\n" + "    x = x + 1\n" * 40),
    ("L10", "# " + "x" * 119 + "\n"),
    ("L10", "# x\n" * 401),
    ("L12", "def f(x):\n    for _ in x:\n        pass\n"),
    ("L12", "def _f(x):\n    return x\n"),
    ("L13", "def f(x):\n    y = {1, 2, 3}\n    return x in y\n"),
    ("L14", "# \u00e9\n"),
    ("L14", "def f(x):\n\treturn x\n"),
    ("L15", "X = 1\nX = 2\n"),
    ("L15", "X = [[1]]\n"),
    ("L15", "def f(min):\n    return min\n"),
    ("L15", "class A:\n    pass\n\n\ndef f(A):\n    return A\n"),
    ("L15", "def f():\n    class A:\n        pass\n    return A()\n"),
    ("L16", "from slicesale.sale import other\n"),
    ("L17", "# the type of it\n"),
    ("L17", "def f(x):\n    return x.register\n"),
    ("L17", "def f(gc):\n    return gc\n"),
    ("L18", "class A:\n    def x(self):\n        self.y = 1\n\n    def y(self):\n        return 1\n"),
    ("L19", "def f(x):\n    try:\n        return x[0]\n    except Exception:\n        return 0\n"),
    ("L19", "def f(x):\n    try:\n        return x[0]\n    except:\n        return 0\n"),
    ("L20", "def f(x, y):\n    return x is y\n"),
    ("L20", "def f(x):\n    return x is 0\n"),
    ("L21", "def f(x: int):\n    return x\n"),
    ("L22", "def f(x):\n    y = len\n    return y(x)\n"),
    ("L22", "def f(x):\n    return int(x, base=2)\n"),
    ("L23", "def f(x):\n    y = range(x)\n    return list(y)\n"),
    ("L24", "def f(x):\n    y = set(x)\n    return len(y)\n"),
    ("L25", "def f(x):\n    x.sort()\n"),
    ("L25", "def f(x):\n    return x.title()\n"),
    ("L26", "class A:\n    def f(self):\n        self.items = 1\n"),
    ("L26", "class A:\n    def sort(self):\n        return 1\n"),
    ("L27", "def f(n):\n    return 2 ** n\n"),
    ("L27", "X = '5 %'\n"),
    ("L27", "X = '\\x41'\n"),
    ("L28", "class A:\n    def __init__(self):\n        return None or 1\n"),
)

WITHIN = '''"""A module."""

from slicesale.sale import name

LIMIT = -5
NAMES = ("a", "b")


class Thing:
    def __init__(self, count):
        self.count = count

    def further(self):
        self.count += 1
        return self.count


def key(pair):
    return -pair[1]


CALLS = {0: (key, 1), 1: (key, 2)}


def walk(pairs, start=0):
    found = []
    for at, pair in enumerate(sorted(pairs, key=key)):
        if pair is None or at < start:
            continue
        found.append(pair)
    thing = Thing(len(found))
    while thing.further() < LIMIT:
        pass
    return sum([pair[1] for pair in found if pair[0] != name]) + max([0] + [k for k in range(3)])
'''


def rules_found(text, path="slicesale/house.py", more=None):
    sources = {"slicesale/__init__.py": "", "slicesale/sale.py": "name = 1\n", path: text}
    sources.update(more or {})
    return [row[2] for row in LOOK.look_at_sources("slicesale", sources)]


class TheLook(unittest.TestCase):
    def test_finds_what_is_outside(self):
        for rule, text in OUTSIDE:
            with self.subTest(rule=rule, text=text[:60]):
                self.assertIn(rule, rules_found(text))

    def test_lets_pass_what_is_within(self):
        self.assertEqual(rules_found(WITHIN), [])

    def test_file_names(self):
        self.assertEqual(rules_found("", "slicesale/Big.py"), ["L1"])
        self.assertEqual(rules_found("", "slicesale/notes.txt"), ["L1"])
        for name in ("test", "tests", "test_a", "conftest", "sum", "enum", "range", "_a"):
            self.assertEqual(rules_found("", "slicesale/" + name + ".py"), ["L14"], name)

    def test_each_folder_has_its_init(self):
        self.assertEqual(rules_found("", "slicesale/inner/more.py"), ["L14"])

    def test_no_two_files_draw_from_one_another(self):
        text = "from slicesale.one import f\n\n\ndef g():\n    return f()\n"
        other = "from slicesale.two import g\n\n\ndef f():\n    return g()\n"
        self.assertEqual(rules_found(text, "slicesale/two.py", {"slicesale/one.py": other}), ["L16", "L16"])

    def test_the_init_binds_no_name_of_a_file(self):
        self.assertEqual(rules_found("sale = 1\n", "slicesale/__init__.py"), ["L16"])

    def test_the_package_is_within(self):
        here = os.getcwd()
        os.chdir(ROOT)
        try:
            sources = LOOK.sources_in("slicesale")
        finally:
            os.chdir(here)
        self.assertIn("slicesale/house.py", sources)
        self.assertEqual(LOOK.look_at_sources("slicesale", sources), [])


if __name__ == "__main__":
    unittest.main()
