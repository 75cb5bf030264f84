"""The interface that has been built so far, and the sizes that the rules for the package set."""

import ast
import unittest
from pathlib import Path

PACKAGE = Path(__file__).resolve().parent.parent / "finitestructures"

CLASSES = {"errors.py": {"StructureFault": ["ValueError"], "TextFault": ["StructureFault"]}}

FUNCTIONS = {
    "formulas.py": {
        "rank": 1,
        "free": 1,
        "names_in": 1,
        "parts": 1,
        "turned": 1,
    },
    "texts.py": {"write": 1, "read": 1},
    "truth.py": {"is_true": 3, "all_values": 3},
    "games.py": {"is_fair": 4, "alike": 5, "least_rounds": 4},
    "strategies.py": {"decide": 5, "is_strategy": 5, "judge": 6},
    "types.py": {"classes": 3, "hintikka": 3},
    "isomorphisms.py": {"isomorphism": 2, "automorphisms": 1, "orbits": 2, "least_form": 1},
    "defining.py": {"define": 3, "is_definition": 4, "defined_sets": 1},
    "pebbles.py": {"greatest_system": 3, "part": 3, "is_system": 4, "fewest_pebbles": 2},
    "maps.py": {
        "least_map": 2,
        "count_maps": 2,
        "sentence_of": 1,
        "decide_map": 2,
        "is_plain": 1,
        "judge_map": 3,
    },
}


def tree_of(name):
    return ast.parse((PACKAGE / name).read_text(encoding="utf-8"))


class Interface(unittest.TestCase):
    def test_each_function_is_defined_in_its_file(self):
        for name, functions in FUNCTIONS.items():
            defined = {
                node.name: len(node.args.args) for node in tree_of(name).body if isinstance(node, ast.FunctionDef)
            }
            for function, many in functions.items():
                self.assertEqual(defined.get(function), many, (name, function))

    def test_each_class_is_defined_in_its_file(self):
        for name, classes in CLASSES.items():
            defined = {
                node.name: [base.id for base in node.bases]
                for node in tree_of(name).body
                if isinstance(node, ast.ClassDef)
            }
            for kind, bases in classes.items():
                self.assertEqual(defined.get(kind), bases)


class Sizes(unittest.TestCase):
    def test_files_lines_and_signs(self):
        for path in sorted(PACKAGE.glob("*.py")):
            text = path.read_text(encoding="utf-8")
            self.assertLessEqual(len(text.splitlines()), 399, path)
            self.assertLessEqual(max(len(line) for line in text.splitlines()), 120, path)
            self.assertTrue(all(sign == "\n" or " " <= sign <= "~" for sign in text), path)

    def test_functions_have_at_most_forty_lines(self):
        for path in sorted(PACKAGE.glob("*.py")):
            for node in ast.walk(tree_of(path.name)):
                if isinstance(node, ast.FunctionDef):
                    self.assertLessEqual(node.end_lineno - node.lineno + 1, 40, (path, node.name))

    def test_imports_come_from_the_package_or_the_library_that_is_allowed(self):
        allowed = ("finitestructures.", "heapq", "math", "itertools", "collections", "__future__")
        for path in sorted(PACKAGE.glob("*.py")):
            for node in ast.walk(tree_of(path.name)):
                self.assertNotIsInstance(node, ast.Import, path)
                if isinstance(node, ast.ImportFrom):
                    self.assertEqual(node.level, 0, path)
                    self.assertTrue(node.module.startswith(allowed), path)
