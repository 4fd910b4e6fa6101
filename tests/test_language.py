import ast
import unittest
from pathlib import Path

from language_rules import PACKAGE, both_method_and_value, faults

FOLDER = Path(__file__).resolve().parent.parent / PACKAGE
FILES = sorted(FOLDER.glob("*.py"))

RIGHT = '''"""A right one."""

from glideways.errors import NoFrac

SOME = (1, 2)


class Kept:
    def __init__(self, one):
        self.one = one

    def time(self):
        return self.one


def told(some, other=None):
    if other is None or some in SOME:
        raise NoFrac(f"no {some}")
    return [one // 2 for one in some if one > 0]
'''

WRONG = [
    ("L2", "from fractions import Fraction\n"),
    ("L3", "if 1:\n    x = 1\n"),
    ("L4", "def f(*some):\n    return some\n"),
    ("L5", "class A:\n    x = 1\n"),
    ("L6", "def f():\n    assert 1\n"),
    ("L7", "def f(x):\n    return x / 2\n"),
    ("L8", "def f(x):\n    return pow(x, 2)\n"),
    ("L10", "X = '" + "x" * 120 + "'\n"),
    ("L12", "def f(x):\n    _y = x\n    return _y\n"),
    ("L14", "X = '\u00e4'\n"),
    ("L15", "def f(hash):\n    return hash\n"),
    ("L16", "import sys\n"),
    ("L17", "# a type\n"),
    ("L20", "def f(x, y):\n    return x is y\n"),
    ("L21", "def f(x: int):\n    return x\n"),
    ("L25", "def f(x):\n    return x.title()\n"),
    ("L27", "def f(n):\n    return 2 ** n\n"),
    ("L3", "X = len('x')\n"),
    ("L3", "from glideways.fracs import ZERO\n\nX = (ZERO, 1)\n"),
    ("L5", "class A:\n    def __add__(self, other):\n        return other\n"),
    ("L26", "class A:\n    def title(self):\n        return 1\n"),
    ("L26", "class A:\n    def __init__(self):\n        self.items = 1\n"),
    ("L28", "class A:\n    def __init__(self):\n        return None\n"),
    ("L15", "from glideways.fracs import times\n\n\ndef f(times):\n    return times\n"),
    ("L15", "from glideways.fracs import over\n\n\ndef f(x):\n    over = x\n    return over\n"),
]


def drawn_from(tree):
    return [part for part in tree.body if isinstance(part, ast.ImportFrom)]


def defined_in(tree):
    names = [part.name for part in tree.body if isinstance(part, (ast.FunctionDef, ast.ClassDef))]
    for part in tree.body:
        if isinstance(part, ast.Assign):
            names.extend(target.id for target in part.targets)
    return names


class LanguageTest(unittest.TestCase):
    def test_the_package_holds_plain_files_alone(self):
        for path in FOLDER.iterdir():
            if path.name != "__pycache__":
                self.assertRegex(path.name, r"^([a-z][a-z0-9_]*|__init__|__main__)\.py$")

    def test_each_file_keeps_to_the_rules(self):
        self.assertTrue(FILES)
        for path in FILES:
            with self.subTest(file=path.name):
                self.assertEqual(faults(path.read_text(encoding="utf-8")), [])

    def test_no_name_is_a_method_in_one_class_and_a_value_in_another(self):
        self.assertEqual(both_method_and_value([ast.parse(path.read_text(encoding="utf-8")) for path in FILES]), set())

    def test_names_are_drawn_from_the_file_that_defines_them(self):
        trees = {path.stem: ast.parse(path.read_text(encoding="utf-8")) for path in FILES}
        for stem, tree in trees.items():
            for part in drawn_from(tree):
                there = defined_in(trees[part.module.partition(".")[2]])
                for name in part.names:
                    with self.subTest(file=stem, name=name.name):
                        self.assertIn(name.name, there)

    def test_no_two_files_draw_from_one_another(self):
        draws = {}
        for path in FILES:
            tree = ast.parse(path.read_text(encoding="utf-8"))
            draws[path.stem] = {part.module.partition(".")[2] for part in drawn_from(tree)} | {"__init__"}
        draws["__init__"] -= {"__init__"}
        while draws:
            free = [stem for stem, others in draws.items() if not others & set(draws)]
            self.assertTrue(free, f"a ring among {sorted(draws)}")
            for stem in free:
                draws.pop(stem)


class RulesTest(unittest.TestCase):
    def test_a_right_file_has_no_fault(self):
        self.assertEqual(faults(RIGHT), [])

    def test_a_name_that_is_both_method_and_value_is_told(self):
        one = ast.parse("class A:\n    def now(self):\n        return 1\n")
        other = ast.parse("class B:\n    def __init__(self, now):\n        self.now = now\n")
        self.assertEqual(both_method_and_value([one, other]), {"now"})
        self.assertEqual(both_method_and_value([one]), set())

    def test_each_wrong_file_is_told_by_its_rule(self):
        for rule, text in WRONG:
            with self.subTest(rule=rule, text=text):
                self.assertIn(rule, [fault[0] for fault in faults(text)])


if __name__ == "__main__":
    unittest.main()
