import ast
import importlib
import pathlib
import unittest

from tests.language import PACKAGE, faults

ROOT = pathlib.Path(__file__).resolve().parent.parent

# The interface of the document, as far as it has landed: files, their names, and the methods of classes.
INTERFACE = {
    "errors": "LineError InvalidGrid InvalidPoint InvalidRule InvalidScheme InvalidStand InvalidPaper "
              "InvalidOperation ParseError UnknownLetter UnknownAddress InvalidNumber NothingToUndo TooMany Refused "
              "NoQuotient",
    "base.words": "is_integer is_count is_letter is_point",
    "base.grids": "Grid Vector",
    "base.rules": "is_item is_row write_row read_row Rule",
    "lines.schemes": "Scheme",
    "lines.grown": "length_of letter_counts step_counts steps_of sequel each_step each_point grown",
    "lines.places": "step_at point_at end_of address_of number_of is_address kind_at steps_with nth_step",
    "visits.kinds": "is_kind kinds_of coming visits visit_at is_address_of count_kinds",
    "measure.boxes": "farthest box area total_turn",
    "visits.meetings": "meetings has_met faults_of crowds outline first_meeting",
    "visits.points": "count_at is_passed visits_at steps_on",
    "decide.stands": "reach is_stand stand_of is_far is_shown first_stands stands_within coming_stands",
    "decide.tables": "Table is_closed_under pairs_to",
    "decide.papers": "is_clear first_order paper is_paper meeting lift",
    "decide.counts": "count_meetings layer cycle_of is_faulty orders_of",
    "decide.likeness": "are_alike parting agreement turn_between likeness_paper is_likeness_paper",
    "use.bench": "Bench",
    "text.texts": "write_scheme read_scheme write_stand read_stand write_address read_address write_paper read_paper",
    "text.pictures": "picture read_picture",
    "text.shell": "Shell",
    "use.changes": "turned_scheme mirrored_scheme reversed_scheme begun_scheme renamed_scheme powered spared "
                   "least_scheme",
}
METHODS = {
    "Grid": "unit direction_of product norm_of conjugate_of turned quotient alternate __len__ __iter__ __eq__ __str__",
    "Vector": "__getitem__ __add__ __sub__ __mul__ __floordiv__ __neg__ turned mirrored power __bool__ __eq__ __str__",
    "Rule": "from_text drawn backward mirrored renamed __add__ __getitem__ __contains__ __len__ __iter__ __eq__ "
            "__str__",
    "Scheme": "from_lines __getitem__ with_line without __contains__ __len__ __iter__ __eq__ __str__",
    "Bench": "draw erase demand waive undo redo repairs trial during twin __contains__ __len__ __iter__ __eq__ __str__",
    "Shell": "answer bench __call__ __len__",
    "Table": "order_of pair_of wrong order_with __contains__ __len__ __iter__ __eq__ __str__",
}

# Small files, each of which breaks the rule beside it.
BROKEN = [
    ("L2", "from os.path import join\n"), ("L16", "import heapq\n"), ("L2", "from .words import is_count\n"),
    ("L16", "from grownlines.base.words import is_letter_or_so\n"), ("L3", "if True:\n    A = 1\n"),
    ("L3", "A = list((1, 2))\n"), ("L15", "A = 1\nA = 2\n"),
    ("L15", "from grownlines.errors import LineError\ndef f(LineError):\n    return 1\n"),
    ("L5", "class A:\n    def __hash__(self):\n        return 1\n"),
    ("L5", "class A:\n    def __getitem__(self, at):\n        return 1\n"),
    ("L5", "class A:\n    def __bool__(self):\n        self.it = 1\n        return True\n"), ("L12", "class _A:\n    pass\n"),
    ("L19", "def f(k):\n    try:\n        k()\n    except TypeError:\n        return 1\n"),
    ("L5", "def f(k, n):\n    k += n\n    return k\n"), ("L6", "def f():\n    global A\n"),
    ("L7", "A = 1.5\n"), ("L7", "def f(a):\n    return a / 2\n"), ("L7", "def f(a):\n    return any(x for x in a)\n"),
    ("L8", "def f(a):\n    return hash(a)\n"), ("L10", "A = '" + "a" * 120 + "'\n"), ("L10", "A = 1\n" + "\n" * 400),
    ("L10", "def f():\n" + "    f()\n" * 41), ("L12", "A__B = 1\n__B = 1\n"), ("L14", "# \u00e9\n"),
    ("L14", "def f():\n\treturn 1\n"), ("L17", "def f(input):\n    return 1\n"), ("L17", "def type(a):\n    return 1\n"),
    ("L17", "A = 'enum'\n"), ("L17", "# (type)\n"), ("L18", "class A:\n    def it(self):\n        return 1\n    def it(self):\n        return 1\n"),
    ("L19", "def f():\n    raise ValueError\n"), ("L20", "def f(a, b):\n    return a is b\n"),
    ("L21", "def f(a: int):\n    return a\n"), ("L22", "def f(a):\n    return int(a, base=3)\n"),
    ("L23", "def f():\n    yield 1\ndef g():\n    k = f()\n    return k\n"),
    ("L23", "def f(a):\n    for k in a:\n        a.append(k)\n"),
    ("L23", "def f(a):\n    for at, k in enumerate(a):\n        a[at] = k\n"),
    ("L23", "def f(a):\n    while a:\n        b = []\n        for k in a:\n            b.append(k)\n        a = b\n"),
    ("L23", "def f(a):\n    return [a.b.pop() for k in a.b]\n"),
    ("L24", "def f(a):\n    k = set(a)\n    return k\n"), ("L25", "def f(a):\n    return a.popitem()\n"),
    ("L26", "class A:\n    def __init__(self):\n        self.values = 1\n"), ("L27", "A = '%'\n"),
    ("L27", "def f(n):\n    return 2 ** n\n"), ("L28", "class A:\n    def __init__(self):\n        return None\n"),
    ("L28", "class A:\n    def __len__(self):\n        return self.n\n"),
]


def texts():
    """The texts of all files of the package by their paths."""
    return {path.relative_to(ROOT).as_posix(): path.read_text(encoding="utf-8")
            for path in sorted((ROOT / PACKAGE).rglob("*.py"))}


class Language(unittest.TestCase):
    def test_the_files_of_the_package_keep_the_rules(self):
        package = {path: ast.parse(text) for path, text in texts().items()}
        self.assertGreater(len(package), 8)
        for path, text in texts().items():
            self.assertEqual(faults(path, text, package), [])

    def test_broken_rules_are_seen(self):
        for rule, text in BROKEN:
            package = {path: ast.parse(known) for path, known in texts().items()}
            package["grownlines/broken.py"] = ast.parse(text)
            found = faults("grownlines/broken.py", text, package)
            self.assertTrue(any(f": {rule}" in fault for fault in found), (rule, text, found))

    def test_files_that_import_from_each_other_are_seen(self):
        pair = {"grownlines/one.py": "from grownlines.two import B\nA = 1\n",
                "grownlines/two.py": "from grownlines.one import A\nB = 1\n"}
        package = {path: ast.parse(text) for path, text in pair.items()}
        for path, text in pair.items():
            self.assertEqual(faults(path, text, package), [f"{path}: L16: files import from each other"])

    def test_the_folder_has_only_plain_files(self):
        folders = [path for path in (ROOT / PACKAGE).rglob("*") if path.is_dir() and path.name != "__pycache__"]
        for folder in folders + [ROOT / PACKAGE]:
            self.assertTrue((folder / "__init__.py").is_file(), folder)
            self.assertRegex(folder.name, "^[a-z][a-z0-9_]*$")
            self.assertFalse(folder.with_suffix(".py").exists())
        for path in (ROOT / PACKAGE).rglob("*"):
            if path.is_file() and path.parent.name != "__pycache__":
                self.assertRegex(path.name, "^(__init__|[a-z][a-z0-9_]*)[.]py$")
        self.assertLessEqual(len(texts()), 100)

    def test_the_interface_stands_where_it_is_listed(self):
        for module, names in INTERFACE.items():
            loaded = importlib.import_module(f"{PACKAGE}.{module}")
            for name in names.split():
                self.assertEqual(getattr(loaded, name).__module__, loaded.__name__)
                for method in METHODS.get(name, "").split():
                    self.assertIn(method, vars(getattr(loaded, name)), (name, method))


if __name__ == "__main__":
    unittest.main()
