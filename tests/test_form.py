"""Tests of the package's form: its files, the language's small part, and the interface's names."""

import ast
import re
import unittest
from importlib import import_module
from inspect import signature
from pathlib import Path

from form import faults_of_draws, faults_of_file, own_values

PACKAGE = Path(__file__).resolve().parent.parent / "tailrooms"
INTERFACE = {
    "errors": {
        "TailError": None, "NoSize": ["thing"], "NoKey": ["key"], "NoThing": ["thing"], "NoRoom": ["number"],
        "Lacking": ["key"], "Full": ["many"], "NoMark": ["mark"], "Busy": None, "NoText": None, "NoLine": None,
        "NoName": ["name"], "Taken": ["name"],
    },
    "kinds": {"is_whole": ["thing"], "is_key": ["thing"], "is_name": ["thing"], "is_size": ["thing"]},
    "bits": {
        "last_bits": ["key", "many"], "level": ["rooms"], "turn": ["rooms"], "room_of": ["key", "rooms"],
        "turned": ["key"], "split_of": ["rooms"], "joined_of": ["rooms"],
    },
    "trails": {"trail": ["key", "rooms"], "stay": ["key", "room"], "parted": ["one", "other"]},
    "rows": {"rows_of": ["keys", "wide"], "rows_for": ["many", "wide"], "looked": ["rows", "key"]},
    "spread": {
        "spread": ["keys", "rooms"], "counts": ["keys", "rooms"], "spill": ["counts", "wide"],
        "longest": ["counts", "wide"], "all_looks": ["keys", "rooms", "wide"],
    },
    "table": {
        "rooms_for": ["count", "fill"], "Table": ["wide", "fill"], "Table.put": ["self", "key", "thing"],
        "Table.drop": ["self", "key"], "Table.find": ["self", "key"], "Table.looks": ["self", "key"],
        "Table.count": ["self"], "Table.rooms": ["self"], "Table.spill": ["self"], "Table.entries": ["self"],
        "Table.room": ["self", "number"], "Table.longest": ["self"], "Table.twin": ["self"],
    },
    "yards": {
        "yard_of": ["wide", "rooms", "entries"], "is_clean": ["yard"], "done": ["yard", "step"],
        "done_all": ["yard", "steps"], "found": ["yard", "key"],
    },
    "changes": {
        "splitting": ["yard"], "joining": ["yard"], "putting": ["yard", "key", "thing"], "dropping": ["yard", "key"],
    },
    "mends": {"mended": ["yard"], "mending": ["yard"]},
    "books": {
        "book_of": ["keys", "rooms"], "is_book": ["count", "thing"], "counts_by": ["count", "book", "rooms"],
        "spills_by": ["count", "book", "wide"], "least_rooms": ["count", "book", "wide", "spill"],
    },
    "keysfor": {"keys_for": ["count", "book"]},
    "further": {
        "greatest_spill": ["counts", "wide", "more"], "least_spill": ["counts", "wide", "more"],
        "is_greatest": ["counts", "wide", "more", "thing"], "is_least": ["counts", "wide", "more", "thing"],
        "fewest_for": ["counts", "wide", "spill"], "most_for": ["counts", "wide", "spill"],
    },
    "outlook": {"outlook": ["keys", "wide", "fill", "more"]},
    "marks": {
        "END": None, "stretch_of": ["room", "rooms"], "line_of": ["rooms"], "room_at": ["mark", "rooms"],
    },
    "walks": {
        "page": ["table", "mark"], "walked": ["table"], "ahead": ["table", "mark"], "is_walk": ["entries", "thing"],
    },
    "keeper": {
        "Keeper": ["wide", "fill"], "Keeper.put": ["self", "key", "thing"], "Keeper.drop": ["self", "key"],
        "Keeper.mend": ["self"], "Keeper.run": ["self"], "Keeper.stop": ["self"], "Keeper.step": ["self"],
        "Keeper.left": ["self"], "Keeper.entries": ["self"], "Keeper.find": ["self", "key"], "Keeper.yard": ["self"],
        "Keeper.settled": ["self"],
    },
    "texts": {
        "show_rows": ["rows"], "show_step": ["step"], "show_yard": ["yard"], "read_rows": ["text"],
        "read_step": ["text"], "read_yard": ["text"],
    },
    "desk": {"Desk": [], "Desk.say": ["self", "line"]},
}
BAD = (
    "import os\n", "from os import path\n", "x = 1\nx = 2\n", "def f(*xs):\n    return 1\n", "x = 1.5\n",
    "def f(n):\n    return 2 ** n\n", "def f(a, b):\n    return a is b\n", "def f(a):\n    return a / 2\n",
    "def f(a):\n    return getattr(a, 'b')\n", "def f(a):\n    return a.encode()\n", "def f(list):\n    return 1\n",
    "def f(a):\n    with a:\n        pass\n", "def f(a):\n    yield a\n", "def _f(a):\n    return a\n",
    "# the type of it\n", "# a tab\there\n", "x = 1" + " " * 120 + "\n", "x = 1\n" * 401,
    "def f(a):\n" + "    a = 1\n" * 40, "def f(a):\n    return any(x for x in a)\n", "print('a')\n",
    "def f(a):\n    return (b := a)\n", "for x in [1]:\n    pass\n", "def f(a):\n    return a.many\n",
    "from tailrooms.bits import turn\n\n\ndef f(turn):\n    return turn\n",
    "from tailrooms.bits import turn\n\n\ndef f(a):\n    return [turn for turn in a]\n",
    "class A:\n    pass\n\n\ndef f(a):\n    A = a\n    return A\n",
)
BAD_DRAWS = (
    {"a": "from tailrooms.b import x\n", "b": "y = 1\n"},
    {"a": "from tailrooms.b import x\n", "b": "from tailrooms.c import x\n", "c": "x = 1\n"},
    {"a": "from tailrooms.b import x\ny = 1\n", "b": "from tailrooms.a import y\nx = 1\n"},
    {
        "a": "from tailrooms.b import x\ny = 1\n", "b": "from tailrooms.c import z\nx = 1\n",
        "c": "from tailrooms.a import y\nz = 1\n",
    },
)


def package_files():
    return sorted(path for path in PACKAGE.iterdir() if path.name != "__pycache__")


class Form(unittest.TestCase):
    def test_files(self):
        for path in package_files():
            self.assertTrue(path.is_file() and re.fullmatch(r"(__init__|__main__|[a-z][a-z0-9_]*)\.py", path.name), path)
        self.assertIn(PACKAGE / "__init__.py", package_files())

    def test_each_file_keeps_to_the_rules(self):
        methods, values = set(), set()
        for path in package_files():
            more_methods, more_values = own_values(ast.parse(path.read_text()))
            methods |= more_methods
            values |= more_values
        self.assertEqual(methods & values, set())
        for path in package_files():
            self.assertEqual(faults_of_file(path.read_text(), methods | values), [], path.name)

    def test_what_breaks_a_rule_is_seen(self):
        for text in BAD:
            self.assertNotEqual(faults_of_file(text, set()), [], text)

    def test_files_draw_from_where_a_name_is_defined_and_in_no_ring(self):
        trees = {path.stem: ast.parse(path.read_text()) for path in package_files()}
        self.assertEqual(faults_of_draws(trees), [])
        for texts in BAD_DRAWS:
            self.assertNotEqual(faults_of_draws({name: ast.parse(text) for name, text in texts.items()}), [], texts)

    def test_plain_code_has_no_fault(self):
        text = "LAST = 2 ** 60\n\n\ndef f(key):\n    return [k for k in range(key) if k is not None]\n"
        self.assertEqual(faults_of_file(text, set()), [])


class Interface(unittest.TestCase):
    def test_names_and_arguments(self):
        for module, names in INTERFACE.items():
            drawn = import_module("tailrooms." + module)
            for name, arguments in names.items():
                thing = drawn
                for part in name.split("."):
                    thing = getattr(thing, part)
                if arguments is not None:
                    self.assertEqual(list(signature(thing).parameters), arguments, name)


if __name__ == "__main__":
    unittest.main()
