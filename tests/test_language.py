"""The package keeps the rules of the language, as far as they are easy to check."""

import ast
import pathlib
import re
import unittest
import warnings

from language import LIBRARY, PACKAGE, faults

FOLDER = pathlib.Path(__file__).resolve().parent.parent / PACKAGE

# The modules of the interface, each of which needs only those above it.
ORDER = """
    errors checks sizes residues polys products draws covers rings tables keys picking refreshing weighings finding nets
    shortening runner workers ledger words scanning programs making covering machine desk
""".split()

BROKEN = {
    "x = 1 / 2\n": "L6/L7 Div",
    "import os\n": "L6/L7 Import",
    "from os import path\n": "L2 import",
    "from .sizes import Sizes\n": "L2 import",
    "x = 1.5\n": "L7 value",
    "def f(xs):\n    return any(x for x in xs)\n": "L6/L7 GeneratorExp",
    "def f(xs):\n    return 2 ** xs\n": "L27 exponent",
    "def f(xs):\n    return print(xs)\n": "L8/L12 name print",
    "def f(xs):\n    min = 3\n    return xs\n": "L15/L17 name min",
    "def f(xs):\n    return xs.isoformat() or xs.format_map(xs)\n": "L25 method",
    "def f(xs):\n    try:\n        return xs[0]\n    except TypeError:\n        return 0\n": "L19 handler",
    "def f():\n" + "    x = 1\n" * 40: "L10 function",
    "x = 1\n" * 400: "L10 file",
    "x = 1  # " + "x" * 120 + "\n": "L10 line",
    "x = '\u00e9'\n": "L14 character",
    "x = 1\nx = 2\n": "L15 bound twice",
    "x = '5 %'\n": "L27 string",
    "x = 'an enum'\n": "L17 word",
    "class A:\n    def __hash__(self):\n        return 1\n": "L5 method __hash__",
    "class A:\n    def decode(self):\n        return 1\n": "L26 method decode",
    "class A:\n    def __init__(self):\n        self.items = 1\n": "L26 attribute items",
    "class A:\n    def __repr__(self):\n        x = 'a'\n        return x\n": "L28 assignment",
    "def f(xs=[]):\n    return xs\n": "L4 default",
    "x = '\\x41'\n": "L27 escape",
    "def f(xs):\n    return f(*f(xs))\n": "L7 star",
    "def f(xs):\n    return sorted(xs)\n": "L5 order",
}


def files():
    return sorted(path for path in FOLDER.rglob("*") if "__pycache__" not in path.parts)


def imports_of(path):
    tree = ast.parse(path.read_text())
    nodes = [node for node in ast.walk(tree) if isinstance(node, ast.ImportFrom) and node.module not in LIBRARY]
    return [(node.module.split(".")[1], item.name) for node in nodes for item in node.names]


def names_in_classes():
    """The sets of the names of methods, properties and static methods, and attributes, over all files."""
    methods, special, attributes = set(), set(), set()
    for path in files():
        for node in ast.walk(ast.parse(path.read_text())):
            if isinstance(node, ast.ClassDef):
                for item in node.body:
                    if isinstance(item, ast.FunctionDef):
                        (special if item.decorator_list else methods).add(item.name)
            if isinstance(node, ast.Attribute) and isinstance(node.ctx, ast.Store):
                attributes.add(node.attr)
    return methods, special, attributes


class Language(unittest.TestCase):
    def test_names_of_properties_and_static_methods_stand_alone(self):
        methods, special, attributes = names_in_classes()
        self.assertEqual(special & (methods | attributes), set())

    def test_generators_have_names_of_their_own(self):
        generators, others = [], []
        for path in files():
            for node in ast.walk(ast.parse(path.read_text())):
                if isinstance(node, ast.FunctionDef):
                    yields = [part for part in ast.walk(node) if isinstance(part, (ast.Yield, ast.YieldFrom))]
                    (generators if yields else others).append(node.name)
        self.assertEqual(sorted(generators), ["lots", "trace"])
        self.assertEqual(set(generators) & set(others), set())

    def test_nothing_is_imported_for_nothing(self):
        for path in files():
            used = {node.id for node in ast.walk(ast.parse(path.read_text())) if isinstance(node, ast.Name)}
            self.assertEqual([name for _, name in imports_of(path) if name not in used], [], path.name)

    def test_the_checks_find_broken_rules(self):
        for source, rule in BROKEN.items():
            self.assertIn(rule, [found for found, _ in faults(source)], source[:60])

    def test_each_file_keeps_the_rules(self):
        for path in files():
            self.assertEqual(faults(path.read_text()), [], path.name)

    def test_the_folder_holds_plain_files_only(self):
        for path in files():
            self.assertTrue(path.is_file(), path)
            self.assertTrue(re.fullmatch(r"(__init__|__main__|[a-z][a-z0-9_]*)\.py", path.name), path)
            self.assertTrue(set(path.read_bytes()) <= set(range(32, 127)) | {10}, path)
        self.assertLessEqual(len(files()), 100)

    def test_python_gives_no_warning(self):
        with warnings.catch_warnings():
            warnings.simplefilter("error")
            for path in files():
                compile(path.read_text(), str(path), "exec")

    def test_imports_name_the_file_that_defines_the_name(self):
        for path in files():
            for module, name in imports_of(path):
                tree = ast.parse((FOLDER / (module + ".py")).read_text())
                targets = [target.id for node in tree.body if isinstance(node, ast.Assign) for target in node.targets]
                defined = [node.name for node in tree.body if isinstance(node, (ast.FunctionDef, ast.ClassDef))]
                self.assertIn(name, defined + targets, path.name)

    def test_modules_need_only_those_above(self):
        for path in files():
            if path.stem in ORDER:
                for module, _ in imports_of(path):
                    if module in ORDER:
                        self.assertLess(ORDER.index(module), ORDER.index(path.stem), path.name)

    def test_no_two_files_import_from_each_other(self):
        needs = {path.stem: {module for module, _ in imports_of(path)} for path in files()}
        while needs:
            free = [name for name, others in needs.items() if not others & set(needs)]
            self.assertTrue(free, needs)
            for name in free:
                del needs[name]


if __name__ == "__main__":
    unittest.main()
