"""The files of the package keep the rules that tests/rules.py checks; and that check sees what it ought to."""

import ast
import pathlib
import unittest

import metonce
from tests.rules import broken_rules

FOLDER = pathlib.Path(metonce.__file__).parent

INTERFACE = {
    "errors.py": "MeetError BadHall NoPerson Alone BadEvent BadTimeline BadSaying BadSayings Full NoSaying OtherHall "
                 "BadCases NoTimeline BadClaim BadNumber BadOrder BadOffers BadWishes Contrary NothingToUndo "
                 "NothingToRedo NoTrial BadJournal BadLine",
    "halls.py": "Hall",
    "timelines.py": "met_by there order_of turned",
    "sayings.py": "is_so contrary",
    "books.py": "Book",
    "cases.py": "barred shows_barred sure",
    "possible.py": "possible shows_possible surely suspects",
    "judging.py": "judged shows_judged",
    "orders.py": "many nth number_of line_of shows_line_of",
    "clashing.py": "needless clash shows_clash",
    "looking.py": "looks shows_looks",
    "choosing.py": "cheapest",
    "diaries.py": "Diary",
    "journals.py": "journal read_journal",
    "desk.py": "Desk",
}
METHODS = {("halls.py", "Hall"): "told without", ("books.py", "Book"): "fits broken without", ("desk.py", "Desk"): "say",
           ("diaries.py", "Diary"): "hear forget judged surely undo redo trial keep tried copy"}

WRONG = (
    ("L2", "import math\n"),
    ("L2", "from math import sqrt\n"),
    ("L2", "from .b import f\n"),
    ("L2", "x = 1\nfrom math import gcd\n"),
    ("L3", "x = len('a')\n"),
    ("L3", "x = y = 1\n"),
    ("L3", "if True:\n    pass\n"),
    ("L3", "for i in (1, 2):\n    pass\n"),
    ("L4", "def f(x=[k for k in (1, 2)]):\n    return x\n"),
    ("L4", "def f(x):\n    def g():\n        return 1\n    return lambda: x\n"),
    ("L4", "def mark(f):\n    return f\n@mark\ndef g():\n    return 1\n"),
    ("L5", "class A:\n    print(1)\n"),
    ("L5", "class A:\n    for i in (1, 2):\n        pass\n"),
    ("L6", "def f():\n    global x\n    x = 1\n"),
    ("L6", "def f():\n    try:\n        x = 1\n    finally:\n        x = 2\n"),
    ("L6", "class A:\n    def __exit__(self, kind, value, trace):\n        self.f()\n"),
    ("L6", "class A:\n    def __exit__(self, kind, value, trace):\n        self.x = self.y()\n"),
    ("L6", "class A:\n    def __exit__(self, kind, value, trace):\n        x = self.y\n"),
    ("L6", "class A:\n    def __exit__(self, kind, value, trace):\n        if self.x == 1:\n            self.x = 2\n"),
    ("L6", "class A:\n    def __exit__(self, kind, value, trace):\n        self.x = value\n"),
    ("L6", "class A:\n    def __exit__(self, kind, value, trace):\n        return True\n"),
    ("L7", "def f(x):\n    return x / 2\n"),
    ("L7", "X = 1.5\n"),
    ("L7", "def f(xs):\n    return (x for x in xs)\n"),
    ("L7", "class A:\n    def __len__(self):\n        return len('')\ndef f(xs):\n    return any(x for x in xs)\n"),
    ("L8", "def f(x):\n    return chr(x)\n"),
    ("L8", "def f(x):\n    print(x)\n"),
    ("L8", "def f(x):\n    return x.__dict__\n"),
    ("L8", "def __f(x):\n    return x\n"),
    ("L10", "def f():\n" + "    pass\n" * 40),
    ("L10", "# " + "x" * 119 + "\n"),
    ("L10", "x = 1\n\n" * 200),
    ("L14", "# caf\u00e9\n"),
    ("L14", "def f():\n\treturn 1\n"),
    ("L15", "x = 1\nx = 2\n"),
    ("L15", "X = [[1]]\n"),
    ("L15", "def f(id):\n    return id\n"),
    ("L15", "def f(xs):\n    next = xs[0]\n    return next\n"),
    ("L15", "class A:\n    pass\ndef f(A):\n    return A\n"),
    ("L16", "from metonce.b import f\n"),
    ("L16", "from metonce.a import f\ndef f():\n    return 1\n"),
    ("L17", "def f(open):\n    return open\n"),
    ("L17", "X = 'typing'\n"),
    ("L18", "class A:\n    def f(self):\n        self.f = 1\n"),
    ("L19", "def f(x):\n    try:\n        return x[0]\n    except IndexError:\n        return 1\n"),
    ("L19", "def f(x):\n    try:\n        return x[0]\n    except:\n        return 1\n"),
    ("L19", "def f(x):\n    try:\n        for k in x:\n            f(k)\n    except KeyError:\n        return 1\n"),
    ("L19", "def f(x):\n    raise x.wrong()\n"),
    ("L19", "def f(x):\n    raise ValueError\n"),
    ("L20", "def f(x, y):\n    return x is y\n"),
    ("L21", "def f(x: int):\n    return x\n"),
    ("L22", "def f(x):\n    return int(x, base=2)\n"),
    ("L23", "def f(xs):\n    return zip(xs, xs)\n"),
    ("L23", "def f(d):\n    k = d.items()\n    return k\n"),
    ("L24", "def f(xs):\n    return set(xs)\n"),
    ("L24", "def f(xs):\n    for x in {k for k in xs}:\n        return x\n"),
    ("L25", "def f(x):\n    return x.popitem()\n"),
    ("L25", "def f(xs):\n    xs.sort()\n"),
    ("L27", "def f(x):\n    return '%' in x\n"),
    ("L27", "def f(n):\n    return 2 ** n\n"),
    ("L27", "X = '\\x41'\n"),
    ("L28", "class A:\n    def __len__(self):\n        return self.n\n"),
)

RIGHT = (
    "",
    '"""A file."""\n\nfrom math import gcd\n\nX = (1, "a")\nY = {"a": 1}\n',
    "def f(xs):\n    return sorted(set(xs)) + [x for x in range(3)]\n",
    "def f(xs):\n    seen = set()\n    seen.add(1)\n    return len(seen) == len(set(xs))\n",
    "class A(ValueError):\n    \"\"\"Wrong.\"\"\"\n\n    def __init__(self, value):\n        self.value = value\n",
    "class B(ValueError):\n    \"\"\"Wrong.\"\"\"\n\n\ndef f(x):\n    raise B(x)\n",
    "def f(d):\n    try:\n        return d[1]\n    except KeyError:\n        return None\n",
    "class A:\n    def __exit__(self, kind, value, trace):\n        self.x = self.y\n"
    "        if kind is not None or self.z is None:\n            self.a.x = ()\n",
)


class RulesTest(unittest.TestCase):
    def test_the_package_keeps_them(self):
        files = {path.name: path.read_text(encoding="utf-8") for path in FOLDER.iterdir() if path.suffix == ".py"}
        self.assertEqual(broken_rules(files), ())

    def test_the_folder_contains_nothing_else(self):
        names = [path.name for path in FOLDER.iterdir() if path.name != "__pycache__"]
        self.assertEqual([name for name in names if not name.endswith(".py")], [])
        self.assertIn("__init__.py", names)

    def test_the_check_sees_what_is_wrong(self):
        for rule, text in WRONG:
            told = broken_rules({"a.py": text})
            self.assertTrue([line for line in told if rule in line.replace(",", "").split()], (rule, text, told))

    def test_the_check_passes_what_is_right(self):
        for text in RIGHT:
            self.assertEqual(broken_rules({"a.py": text}), (), text)

    def test_a_circle_of_imports(self):
        files = {"a.py": "from metonce.b import g\ndef f():\n    return g()\n",
                 "b.py": "from metonce.a import f\ndef g():\n    return f()\n"}
        self.assertEqual([line.split(": ")[1] for line in broken_rules(files)], ["L16 a circle of imports"] * 2)


class InterfaceTest(unittest.TestCase):
    def test_each_name_is_defined_in_its_file(self):
        for at, names in INTERFACE.items():
            tree = ast.parse((FOLDER / at).read_text(encoding="utf-8"))
            defined = [node.name for node in tree.body if isinstance(node, (ast.FunctionDef, ast.ClassDef))]
            self.assertEqual([name for name in names.split() if name not in defined], [], at)

    def test_each_method_is_defined_in_its_class(self):
        for (at, kind), names in METHODS.items():
            tree = ast.parse((FOLDER / at).read_text(encoding="utf-8"))
            defined = [part.name for node in tree.body if isinstance(node, ast.ClassDef) and node.name == kind
                       for part in node.body if isinstance(part, ast.FunctionDef)]
            self.assertEqual([name for name in names.split() if name not in defined], [], kind)


if __name__ == "__main__":
    unittest.main()
