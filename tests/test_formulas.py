import unittest
from itertools import product

from finitestructures.formulas import free, names_in, parts, rank, turned
from tests import plain
from tests.samples import formulas, structures

X_IS_Y = ("same", "x", "y")
R_X = ("rel", "R", ("x",))
E_XY = ("rel", "E", ("x", "y"))

# Each row: a formula, its rank, its free names, all its names, how many formulas stand in it.
TOLD = (
    (R_X, 0, ("x",), ("x",), 1),
    (E_XY, 0, ("x", "y"), ("x", "y"), 1),
    (("rel", "E", ("y", "x")), 0, ("x", "y"), ("x", "y"), 1),
    (("rel", "E", ("x", "x")), 0, ("x",), ("x",), 1),
    (("same", "y", "x"), 0, ("x", "y"), ("x", "y"), 1),
    (("same", "z", "z"), 0, ("z",), ("z",), 1),
    (("and", ()), 0, (), (), 1),
    (("or", ()), 0, (), (), 1),
    (("and", (R_X,)), 0, ("x",), ("x",), 2),
    (("or", (("and", ()), ("and", ()))), 0, (), (), 3),
    (("not", X_IS_Y), 0, ("x", "y"), ("x", "y"), 2),
    (("some", "x", R_X), 1, (), ("x",), 2),
    (("all", "x", R_X), 1, (), ("x",), 2),
    (("some", "z", R_X), 1, ("x",), ("x", "z"), 2),
    (("all", "z", ("and", ())), 1, (), ("z",), 2),
    (("not", ("all", "y", E_XY)), 1, ("x",), ("x", "y"), 3),
    # A name that is bound twice, one within the other.
    (("some", "x", ("all", "x", R_X)), 2, (), ("x",), 3),
    (("some", "x", ("and", (("all", "x", R_X), R_X))), 2, (), ("x",), 5),
    # A name that is bound at one place and free at another, on either side.
    (("and", (("some", "x", R_X), R_X)), 1, ("x",), ("x",), 4),
    (("and", (R_X, ("some", "x", R_X))), 1, ("x",), ("x",), 4),
    (("or", (("some", "x", E_XY), ("all", "y", E_XY))), 1, ("x", "y"), ("x", "y"), 5),
    # Side by side they do not stand within one another.
    (("and", (("some", "x", R_X), ("some", "y", ("all", "x", E_XY)))), 2, (), ("x", "y"), 6),
    (("and", (("some", "y", ("all", "x", E_XY)), ("some", "x", R_X))), 2, (), ("x", "y"), 6),
    (("some", "x", ("not", ("all", "y", ("or", (E_XY, ("some", "z", ("same", "z", "u"))))))), 3,
     ("u",), ("u", "x", "y", "z"), 7),
    # Names are ordered as texts are.
    (("and", (("same", "x1", "x"), ("same", "b", "x0"), ("same", "a9", "a"))), 0,
     ("a", "a9", "b", "x", "x0", "x1"), ("a", "a9", "b", "x", "x0", "x1"), 4),
)


class Told(unittest.TestCase):
    def test_table(self):
        for formula, deep, outer, names, many in TOLD:
            with self.subTest(formula=formula):
                self.assertEqual(rank(formula), deep)
                self.assertEqual(free(formula), outer)
                self.assertEqual(names_in(formula), names)
                self.assertEqual(parts(formula), many)

    def test_kinds_of_what_is_told(self):
        for formula in formulas():
            self.assertIs(type(rank(formula)), int)
            self.assertIs(type(parts(formula)), int)
            self.assertIs(type(free(formula)), tuple)
            self.assertIs(type(names_in(formula)), tuple)

    def test_as_a_plain_walk_tells(self):
        for formula in formulas():
            with self.subTest(formula=formula):
                self.assertEqual(rank(formula), plain.plain_rank(formula))
                self.assertEqual(free(formula), tuple(sorted(plain.plain_free(formula))))
                self.assertEqual(names_in(formula), tuple(sorted(plain.plain_names(formula))))
                self.assertEqual(parts(formula), len(plain.everything(formula)))

    def test_a_formula_that_stands_twice_counts_twice(self):
        formula = R_X
        for _ in range(6):
            formula = ("and", (formula, formula))
        self.assertEqual(parts(formula), 127)

    def test_far_beyond_the_bounds(self):
        formula = X_IS_Y
        for k in range(3000):
            formula = ("not", ("some", ("y", "z")[k % 2], ("and", (formula,))))
        self.assertEqual(rank(formula), 3000)
        self.assertEqual(free(formula), ("x",))
        self.assertEqual(names_in(formula), ("x", "y", "z"))
        self.assertEqual(parts(formula), 9001)
        self.assertEqual(rank(turned(formula)), 3000)


def all_values(names, many):
    """All dicts from the names to so many elements."""
    return [dict(zip(names, row)) for row in product(range(many), repeat=len(names))]


def quantified(formula):
    return sum(part[0] in ("some", "all") for part in plain.everything(formula))


class Turned(unittest.TestCase):
    def test_table(self):
        table = (
            (R_X, R_X),
            (("not", R_X), ("not", R_X)),
            (("not", X_IS_Y), ("not", X_IS_Y)),
            (("not", ("not", R_X)), R_X),
            (("not", ("not", ("not", R_X))), ("not", R_X)),
            (("not", ("and", ())), ("or", ())),
            (("not", ("or", ())), ("and", ())),
            (("and", ()), ("and", ())),
            (("not", ("some", "x", R_X)), ("all", "x", ("not", R_X))),
            (("not", ("all", "y", ("not", E_XY))), ("some", "y", E_XY)),
        )
        for formula, wanted in table:
            self.assertEqual(turned(formula), wanted)

    def test_not_stands_only_ahead_of_rel_and_same(self):
        for formula in formulas():
            for part in plain.everything(turned(formula)):
                if part[0] == "not":
                    self.assertIn(part[1][0], ("rel", "same"))

    def test_as_many_some_and_all_and_the_same_free_names(self):
        for formula in formulas():
            with self.subTest(formula=formula):
                self.assertEqual(quantified(turned(formula)), quantified(formula))
                self.assertEqual(plain.plain_free(turned(formula)), plain.plain_free(formula))

    def check_truth(self, formula, rooms):
        other = turned(formula)
        names = sorted(plain.plain_free(formula))
        for structure in rooms:
            for values in all_values(names, structure[1]):
                self.assertEqual(
                    plain.holds(structure, other, values),
                    plain.holds(structure, formula, values),
                    (structure, formula, values),
                )

    def test_the_same_truth_in_every_small_structure(self):
        rooms = structures(1) + structures(2)
        for formula in formulas()[:400:2]:
            self.check_truth(formula, rooms)

    def test_the_same_truth_in_some_larger_structures(self):
        rooms = structures(2)[5::11] + structures(3)[70::811]
        chosen = [formula for formula in formulas() if len(plain.plain_free(formula)) <= 3]
        for formula in chosen:
            self.check_truth(("not", formula), rooms)

    def test_several_rows_stay_in_order_below_several_not(self):
        rows = (R_X, ("some", "y", E_XY), ("not", X_IS_Y))
        formula = ("not", ("or", (("not", ("and", rows)), ("and", ()))))
        self.assertEqual(turned(formula), ("and", (("and", rows), ("or", ()))))


class Unchanged(unittest.TestCase):
    def test_what_is_handed_in_stays(self):
        for formula, again in zip(formulas(), formulas()):
            for told in (rank, free, names_in, parts, turned):
                one = told(formula)
                self.assertEqual(formula, again)
                self.assertEqual(told(formula), one)
