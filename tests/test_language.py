"""The files of the package keep the rules of the subset; the program does the same each time."""

import pathlib
import unittest
import warnings

from tests.language import PACKAGE, faults

FOLDER = pathlib.Path(__file__).resolve().parent.parent / PACKAGE
# The modules of the interface, in the order of the document: each needs just those ahead of it, and basics.
LISTED = [
    "limits", "errors", "tables", "ways", "webs", "needed", "lines", "trees", "partings", "rests", "rounds", "trips", "clocks",
    "spanning", "crowds", "piles", "moves", "caps", "exchanges", "sheets", "hidden", "boards",
    "desks", "checker", "certificates", "console",
]
# Rows of which each one is against a rule, as a whole file.
BAD = """import os
from os import path
from nearandfar import limits
from .limits import MOST_THINGS
from nearandfar.limits import MOST_THINGS as most
from itertools import chain
COUNT = len("ab")
COUNT = {"a": later}
COUNT = {"a": {"b": 1}}
COUNT = ([1], 2)
ONE, TWO = 1, 2
print(3)
def f(n): return n / 2
def f(n): return n ** 2
def f(n): return 0.5
def f(n): return float(n)
def f(n=[]): return n
def f(*n): return n
def f(n: int): return n
def f(list): return list
def f(type): return 1
def f(n): return hash(n)
def f(n): return n is 3
def f(n): return any(x for x in n)
def f(n): yield n
def f(n): return {x for x in n}
def f(n): return {1, 2}
def f(n): return zip(n, n)
def f(n): return (n := 3)
def f(n): return n.format(3)
def f(n): return n.isascii()
def f(n): return "100%"
def f(n): return "\\x41"
def f(n): return "__odd__"
def f(n): return n.__class__
def f(n): raise n
def f(n): raise ValueError(n)
def f(n): _ = n; return _
def f(n): return "\u00e9"
def f(n): global g
def f(n): return f(*n)
def f(n): return f"{n:>5}"
def f(n): return sum(n, start=1)
def f(n): seen = set(); return seen
@staticmethod
class A: x = [1]
class A(dict, list): pass
"""


class TestLanguage(unittest.TestCase):
    def test_the_folder(self):
        names = sorted(path.name for path in FOLDER.iterdir() if path.name != "__pycache__")
        self.assertTrue(all(name.endswith(".py") for name in names), names)
        self.assertEqual(sorted([f"{name}.py" for name in LISTED] + ["__init__.py", "basics.py"]), names)

    def test_each_file(self):
        for path in sorted(FOLDER.iterdir()):
            if path.suffix == ".py":
                self.assertEqual([], faults(path.name, path.read_bytes().decode("ascii")))

    def test_python_has_no_warning(self):
        with warnings.catch_warnings():
            warnings.simplefilter("error")
            for path in FOLDER.glob("*.py"):
                compile(path.read_text(), path.name, "exec")

    def test_faults_are_found(self):
        for row in BAD.strip().split("\n"):
            text = row + "\n" + ("def f(n): return n\n" if row.startswith("@") else "")
            with warnings.catch_warnings():
                warnings.simplefilter("ignore")
                self.assertNotEqual([], faults("some.py", text), row)
        long = "def f(n):\n" + "    n += 1\n" * 40 + "    return n\n"
        self.assertNotEqual([], faults("some.py", long))
        self.assertNotEqual([], faults("some.py", "# " + "x" * 120 + "\n"))
        for row in ("return True", "self.rows = value", "self.rows = [1]", "if value is None:\n            pass", "self.shut()"):
            held = f"class A:\n    def __exit__(self, kind, value, trace):\n        {row}\n"
            self.assertNotEqual([], faults("some.py", held), row)
        self.assertEqual([], faults("some.py", held.replace("self.shut()", "self.rows = self.old")))
        self.assertNotEqual([], faults("some.py", "\n" * 401))
        self.assertNotEqual([], faults("some.py", "def f(n):\n    try:\n        return n\n    except ValueError:\n        return 0\n"))
        self.assertEqual([], faults("some.py", '"""Fine."""\n\nCOUNT = 3\n\n\ndef grow(number):\n    return number + COUNT\n'))

    def test_no_circle_of_imports(self):
        needs = {}
        for path in FOLDER.glob("*.py"):
            rows = [row.split()[1] for row in path.read_text().split("\n") if row.startswith("from nearandfar.")]
            needs[path.stem] = [row.split(".")[1] for row in rows]
        for at, name in enumerate(LISTED):
            self.assertLessEqual(set(needs[name]) & set(LISTED), set(LISTED[:at]), name)
        for name in set(needs) - set(LISTED):
            self.assertLessEqual(set(needs[name]), {"limits", "errors"}, name)
