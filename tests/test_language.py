"""The package keeps to what tests/language.py checks of the rules, and is built as it is asked for."""

import os
import unittest
import warnings

from tests import language

ROOT = os.path.dirname(os.path.dirname(os.path.abspath(__file__)))
PACKAGE = os.path.join(ROOT, language.PACKAGE)


def names_of_files():
    return sorted(name for name in os.listdir(PACKAGE) if name != "__pycache__")


def sources():
    found = {}
    for name in names_of_files():
        with open(os.path.join(PACKAGE, name), encoding="utf-8", newline="") as file:
            found[name] = file.read()
    return found


# Pieces of code with the rule that each one breaks.
BROKEN = (
    ("import os\n", "L6"),
    ("from os import path\n\n\ndef at():\n    return path\n", "L16"),
    ("from .errors import Bad\n\n\ndef at():\n    raise Bad(1)\n", "L16"),
    ("from sumstand.errors import Good\n\n\ndef at():\n    return Good(1)\n", "L16"),
    ("from sumstand.errors import Bad\n", "L2"),
    ("WORD = 1\nfrom sumstand.errors import Bad\n\n\ndef at():\n    raise Bad(1)\n", "L2"),
    ("def at():\n    from sumstand.errors import Bad\n    raise Bad(1)\n", "L2"),
    ("A, B = 1, 2\n", "L3"),
    ("A = len('a')\n", "L3"),
    ("if 1:\n    pass\n", "L3"),
    ("@at\ndef at():\n    pass\n", "L4"),
    ("@at\nclass At:\n    pass\n", "L5"),
    ("def at():\n    global x\n", "L6"),
    ("def at(x):\n    return x / 2\n", "L6"),
    ("def at(x):\n    return {x, 2}\n", "L6"),
    ("def at():\n    return 0.5\n", "L7"),
    ("def at(x):\n    return hash(x)\n", "L8"),
    ("def at(x):\n    return x.__class__\n", "L8"),
    ("def at(x):\n    return x.__name__\n", "L8"),
    ("def at(x):\n    return at(x).__class__.__name__\n", "L8"),
    ("def at(x):\n    match x:\n        case [id, 1]:\n            return 2\n    return 3\n", "L17"),
    ("def at(x):\n    match x:\n        case [1, *max]:\n            return 2\n    return 3\n", "L15"),
    ("def at():\n" + "    pass\n" * 40, "L10"),
    ("A = 1\n" * 400, "L10"),
    ("WORD = '" + "a" * 120 + "'\n", "L10"),
    ("def __at():\n    pass\n", "L12"),
    ("WORD = '\u00e4'\n", "L14"),
    ("def at():\n\tpass\n", "L14"),
    ("A = 1\nA = 2\n", "L15"),
    ("def at(max):\n    return max\n", "L15"),
    ("def at(id):\n    return id\n", "L17"),
    ("def at(x):\n    return type(x)\n", "L17"),
    ("WORD = 'an enum'\n", "L17"),
    ("def at():\n    raise at()\n", "L19"),
    ("def at():\n    raise ValueError(1)\n", "L19"),
    ("def at(x):\n    try:\n        return x[0]\n    except TypeError:\n        return 1\n", "L19"),
    ("def at(x):\n    return x is at\n", "L20"),
    # A kept range in a generator expression, a lambda or a nested function; and zips and views likewise.
    ("def at(x):\n    ks = range(x)\n    return tuple(k for k in ks)\n", "L23"),
    ("def at(x):\n    ks = range(x)\n    return tuple(k for k in x if k in ks)\n", "L23"),
    ("def at(x):\n    ks = range(x)\n    return sorted(x, key=lambda k: ks[k])\n", "L23"),
    ("def at(x):\n    ks = range(x)\n\n    def by():\n        return list(ks)\n    return by()\n", "L23"),
    ("def at(x):\n    ks: int = range(x)\n    return sum(k for k in ks)\n", "L23"),
    ("def at(x):\n    if ks := range(x):\n        return any(k for k in ks)\n", "L23"),
    ("def at(x):\n    ks = range(x) if x else range(3)\n    return any(k for k in ks)\n", "L23"),
    ("def at(x, y):\n    ks = zip(x, y)\n    return all(k for k in ks)\n", "L23"),
    ("def at(x):\n    ks = enumerate(x)\n    return dict(k for k in ks)\n", "L23"),
    ("def at(x):\n    ks = reversed(x)\n    return list(k for k in ks)\n", "L23"),
    ("def at(x):\n    ks = x.items()\n    return max(k for k in ks)\n", "L23"),
    ("def at(x):\n    ks = x.keys()\n    return min(k for k in ks)\n", "L23"),
    ("def at(x):\n    ks = x.values()\n    return ' '.join(k for k in ks)\n", "L23"),
    ("class At:\n    def at(self, x):\n        ks = range(x)\n        return tuple(k for k in ks)\n", "L23"),
    ("class At:\n    def __init__(self, x):\n        self.put = x\n", "L18"),
    ("def at(x, y):\n    x.put, y = y, x\n", "L18"),
    ("def at(x):\n    return x.isspaces()\n", "L25"),
    ("class At:\n    def __init__(self, x):\n        self.items = x\n", "L26"),
    ("def at(x):\n    return 2 ** x\n", "L27"),
    ("WORD = '5%'\n", "L27"),
    ("WORD = '\\x41'\n", "L27"),
)

LET = '''"""A file."""

from sumstand.errors import Bad

MOST = 3


class Box:
    """A box."""

    def __init__(self, rows):
        self.rows = rows
        self.word = self.__class__.__name__

    def put(self, row):
        self.rows.append(row)


def at(box, place):
    # A type, told in a comment.
    if place is None or place > MOST:
        raise Bad(place)
    box.put(place)
    places = range(len(box.rows))
    if place in places:
        return [box.rows[at] for at in places]
    return tuple(row for row in list(range(place)) if row != place)
'''


class Language(unittest.TestCase):
    def test_the_package_has_no_fault(self):
        files = sources()
        defined = {name.removesuffix(".py"): language.defined_in(source) for name, source in files.items()}
        defined[""] = set().union(*[language.methods_in(source) for source in files.values()])
        for name, source in files.items():
            with self.subTest(file=name):
                self.assertEqual(language.faults(name, source, defined), [])

    def test_the_package_is_one_folder_of_python_files(self):
        names = names_of_files()
        self.assertIn("__init__.py", names)
        self.assertTrue(all(name.endswith(".py") for name in names), names)
        self.assertLessEqual(len(names), 100)

    def test_no_two_files_import_from_each_other(self):
        imports = {name.removesuffix(".py"): language.imported_by(source) for name, source in sources().items()}
        self.assertIsNone(language.ring(imports))

    def test_python_warns_of_nothing(self):
        with warnings.catch_warnings():
            warnings.simplefilter("error")
            for name, source in sources().items():
                compile(source, name, "exec")


class Checks(unittest.TestCase):
    """The checks see what they are there for."""

    def test_each_broken_rule_is_seen(self):
        for source, rule in BROKEN:
            with self.subTest(source=source[:60], rule=rule):
                told = [found for _, found, _ in language.faults("at.py", source, {"errors": {"Bad"}, "": {"put"}})]
                self.assertIn(rule, told)

    def test_what_is_let_has_no_fault(self):
        self.assertEqual(language.faults("at.py", LET, {"errors": {"Bad"}}), [])

    def test_names_of_files(self):
        for name in ("At.py", "at-1.py", "at.txt", "test_at.py", "law_at.py", "sum.py", "math.py", "os.py"):
            with self.subTest(name=name):
                self.assertNotEqual(language.faults(name, "", {}), [])

    def test_rings_of_imports(self):
        self.assertEqual(language.ring({"a": {"b"}, "b": {"c"}, "c": {"a"}}), "a")
        self.assertEqual(language.ring({"a": {"b"}, "b": {"b"}}), "b")
        self.assertIsNone(language.ring({"a": {"b", "c"}, "b": {"c"}, "c": set()}))


if __name__ == "__main__":
    unittest.main()
