"""The interface, and the sizes that the rules for the package set."""

import ast
import re
import unittest
from pathlib import Path

PACKAGE = Path(__file__).resolve().parent.parent / "finitestructures"
DOCUMENT = PACKAGE.parent.parent / "shared" / "DOC.md"

CLASSES = {"errors.py": {"StructureFault": ["ValueError"], "TextFault": ["StructureFault"]}}

FUNCTIONS = {
    "formulas.py": {
        "rank": 1,
        "free": 1,
        "names_in": 1,
        "parts": 1,
        "turned": 1,
    },
    "texts.py": {"write": 1, "read": 1},
    "truth.py": {"is_true": 3, "all_values": 3},
    "games.py": {"is_fair": 4, "alike": 5, "least_rounds": 4},
    "strategies.py": {"decide": 5, "is_strategy": 5, "judge": 6},
    "types.py": {"classes": 3, "hintikka": 3},
    "isomorphisms.py": {"isomorphism": 2, "automorphisms": 1, "orbits": 2, "least_form": 1},
    "defining.py": {"define": 3, "is_definition": 4, "defined_sets": 1},
    "pebbles.py": {"greatest_system": 3, "part": 3, "is_system": 4, "fewest_pebbles": 2},
    "maps.py": {
        "least_map": 2,
        "count_maps": 2,
        "sentence_of": 1,
        "decide_map": 2,
        "is_plain": 1,
        "judge_map": 3,
    },
    "cores.py": {"part_of": 2, "core": 1, "is_core": 1},
    "products.py": {"product": 2, "sum_of": 2},
    "models.py": {"structures": 2, "least_model": 3, "spectrum": 3, "count_models": 3, "follows": 4},
    "counting.py": {
        "count_one_to_one": 2,
        "count_onto": 2,
        "partitions": 1,
        "quotient": 2,
        "sums": 2,
        "part_by_counts": 2,
        "judge_counts": 3,
    },
}


def tree_of(name):
    return ast.parse((PACKAGE / name).read_text(encoding="utf-8"))


class Interface(unittest.TestCase):
    def test_each_function_is_defined_in_its_file(self):
        for name, functions in FUNCTIONS.items():
            defined = {
                node.name: len(node.args.args) for node in tree_of(name).body if isinstance(node, ast.FunctionDef)
            }
            for function, many in functions.items():
                self.assertEqual(defined.get(function), many, (name, function))

    def test_the_names_that_the_document_tells(self):
        if not DOCUMENT.exists():
            return
        text = DOCUMENT.read_text(encoding="utf-8").split("# The interface")[1]
        told = {}
        for section in re.split(r"^## finitestructures/", text, flags=re.MULTILINE)[1:]:
            name, *rows = section.splitlines()
            heads = [row[2:].split(":")[0] for row in rows if row.startswith("- ") and not row.startswith("- class ")]
            found = re.findall(r"(\w+)\(([^)]*)\)", " ".join(re.sub(r"\)\..*", ")", head) for head in heads))
            if found:
                told[name] = {function: len(names.split(",")) for function, names in found}
        self.assertEqual(told, FUNCTIONS)

    def test_each_function_takes_its_arguments_by_place(self):
        for name, functions in FUNCTIONS.items():
            for node in tree_of(name).body:
                if isinstance(node, ast.FunctionDef) and node.name in functions:
                    taken = node.args
                    rest = (taken.posonlyargs, taken.kwonlyargs, taken.vararg, taken.kwarg, taken.defaults)
                    self.assertFalse(any(rest), (name, node.name))

    def test_each_class_is_defined_in_its_file(self):
        for name, classes in CLASSES.items():
            defined = {
                node.name: [base.id for base in node.bases]
                for node in tree_of(name).body
                if isinstance(node, ast.ClassDef)
            }
            for kind, bases in classes.items():
                self.assertEqual(defined.get(kind), bases)


class Sizes(unittest.TestCase):
    def test_files_lines_and_signs(self):
        for path in sorted(PACKAGE.glob("*.py")):
            text = path.read_text(encoding="utf-8")
            self.assertLessEqual(len(text.splitlines()), 399, path)
            self.assertLessEqual(max(len(line) for line in text.splitlines()), 120, path)
            self.assertTrue(all(sign == "\n" or " " <= sign <= "~" for sign in text), path)

    def test_functions_have_at_most_forty_lines(self):
        for path in sorted(PACKAGE.glob("*.py")):
            for node in ast.walk(tree_of(path.name)):
                if isinstance(node, ast.FunctionDef):
                    self.assertLessEqual(node.end_lineno - node.lineno + 1, 40, (path, node.name))

    def test_imports_come_from_the_package_or_the_library_that_is_allowed(self):
        allowed = ("finitestructures.", "heapq", "math", "itertools", "collections", "__future__")
        for path in sorted(PACKAGE.glob("*.py")):
            for node in ast.walk(tree_of(path.name)):
                self.assertNotIsInstance(node, ast.Import, path)
                if isinstance(node, ast.ImportFrom):
                    self.assertEqual(node.level, 0, path)
                    self.assertTrue(node.module.startswith(allowed), path)
