"""The package keeps to the rules that tests/language.py sees, and these see what breaks them."""

import unittest

from tests.language import Package, package_files, read_package
from tests.support import TOP

GOOD = '"""A file."""\n\nfrom math import gcd\n\nMOST = 3\n\n\ndef many(value):\n    return gcd(value, MOST)\n'
BROKEN = {
    "from math import *": "L2", "from math import gcd as g": "L2", "import math": "Import", "from os import path": "L16",
    "from fetchunseen.b import missing": "L16", "MANY = len(())": "L3", "MANY, MORE = 1, 2": "L3", "print(1)": "L3",
    "MOST = 4": "L15", "def f(gcd):\n    return 1": "L15", "def f(len):\n    return 1": "L15",
    "def f(x):\n    return x / 2": "Div", "def f(x):\n    return 0.5": "L7", "def f(x):\n    return x ** x": "L27",
    "def f(x):\n    return sum(y for y in x)": "GeneratorExp", "def f(x):\n    return x is x": "L20",
    "def f(x):\n    return lambda: 1": "Lambda", "def f(x):\n    rows = zip(x, x)\n    return rows": "L23",
    "def f(x):\n    return {1, 2}": "L24", "def f(x):\n    for y in set(x):\n        pass": "L24",
    "def f(x):\n    return x.encode()": "L25", "def f(x):\n    return many(x, x)": "L22", "def f(x):\n    return 'a%'": "L27",
    "def f(x):\n    raise ValueError": "L19", "def f(x):\n    return id(x)": "L8", "def f(x):\n    return 'type'": "L17",
    "def f(x):\n    return eval": "L8", "def f(x):\n    try:\n        pass\n    except KeyError:\n        pass": "Try",
    "def f(x):\n" + "    x = 1\n" * 40: "L10", "X = '" + "a" * 120 + "'": "L10", "X = 1  # \t": "L14",
    "def f(x=[]):\n    return x": "L4", "async def f(x):\n    return x": "Async", "def f(__x):\n    return 1": "L12",
    "def f(x):\n    return '\\x41'": "L27", "def f(x):\n    return sorted(x, key=len)": "L22",
    "class E(ValueError):\n    def __init__(self):\n        return None": "L28", "@many\ndef f(x):\n    return x": "L4",
    "def f(x):\n    return x.missing": "L18", "def f(x):\n    x.spot = 1": "attribute", "def f(x):\n    return f'{x!r}'": "L7",
    "class C:\n    def get(self):\n        return 1": "L26", "class C:\n    def __len__(self):\n        return 1": "__len__",
    "class C:\n    def __str__(self):\n        x = 1\n        return str(x)": "L28", "def f(x):\n    return f'{x:d}'": "L7",
    "class C:\n    def far(self):\n        return 1\n\n    def far(self):\n        return 2": "L18",
    "class C:\n    FAR = 1": "L5", "class C:\n    def __init__(self, x):\n        self.x = x\n\n    def x(self):\n        pass": "L18",
    "class C:\n    def __init__(self, x):\n        self.x = x\n\n\ndef f(x):\n    return C(x, x)": "L22",
    "FORMS = (later, later)\n\n\ndef later(x):\n    return x": "L3", "SECOND = many": "L3",
    "FORMS = (many, many)\n\n\ndef f(x):\n    return FORMS[0](x)": "L3", "FORMS = (gcd, many)": "L3",
    "class Desk:\n    def __init__(self):\n        self.n = 0\n\n    def __str__(self):\n        self.n = 1": "attribute",
    "class Other:\n    def __init__(self):\n        self.n = 0\n\n    def go(self):\n        self.n = 1": "attribute",
    "class Desk:\n    def __init__(self):\n        self.n = 0\n\n\ndef go(desk):\n    desk.far = 1": "attribute",
    "def f(x):\n    return list(x)[undefined]": "L8", "def f(x):\n    return [1 for _ in x if _]": "L8",
}


class TestLanguage(unittest.TestCase):
    def test_package(self):
        self.assertEqual(read_package(TOP).problems(), [])

    def test_files(self):
        files, strays = package_files(TOP)
        self.assertEqual(strays, [])
        self.assertIn("fetchunseen/__init__.py", files)
        self.assertLessEqual(len(files), 100)

    def test_good_file(self):
        self.assertEqual(Package({"fetchunseen/a.py": GOOD}).problems(), [])

    def test_good_changes(self):
        desk = "class Desk:\n    def __init__(self):\n        self.n = 0\n\n    def go(self):\n        self.n += 1\n\n\ndef back(desk):\n    desk.n = 0\n"
        table = "FORMS = (many, many)\n\n\ndef f(x):\n    form = FORMS[0]\n    return form(x)\n"
        for code in (desk, table):
            self.assertEqual(Package({"fetchunseen/a.py": GOOD + "\n\n" + code}).problems(), [])

    def test_broken_files(self):
        for code, rule in BROKEN.items():
            found = Package({"fetchunseen/a.py": GOOD + "\n\n" + code + "\n"}).problems()
            self.assertTrue(any(rule in some for some in found), (code, found))

    def test_broken_names(self):
        for path in ("fetchunseen/A.py", "fetchunseen/test.py", "fetchunseen/range.py", "fetchunseen/math.py"):
            self.assertNotEqual(Package({path: GOOD}).problems(), [])
        self.assertNotEqual(Package({"fetchunseen/a.py": GOOD, "fetchunseen/a/b.py": GOOD}).problems(), [])

    def test_cycles(self):
        one = '"""One."""\n\nfrom fetchunseen.b import other\n\n\ndef some(x):\n    return other(x)\n'
        two = '"""Two."""\n\nfrom fetchunseen.a import some\n\n\ndef other(x):\n    return some(x)\n'
        found = Package({"fetchunseen/a.py": one, "fetchunseen/b.py": two}).problems()
        self.assertTrue(any("L16" in line for line in found))


if __name__ == "__main__":
    unittest.main()
