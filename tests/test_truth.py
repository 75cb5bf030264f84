import unittest
from itertools import product

from finitestructures.truth import all_values, is_true, models_among
from tests import plain
from tests.samples import formulas, structures, wide_structures

R_X = ("rel", "R", ("x",))
R_Y = ("rel", "R", ("y",))
E_XY = ("rel", "E", ("x", "y"))
E_YX = ("rel", "E", ("y", "x"))
E_XX = ("rel", "E", ("x", "x"))
X_IS_Y = ("same", "x", "y")
TRUE = ("and", ())
FALSE = ("or", ())

# Edges 0 to 1, 1 to 2 and 2 to itself; R holds of 1.
ROOM = ("structure", 3, (("E", 2, ((0, 1), (1, 2), (2, 2))), ("R", 1, ((1,),))))
ONE = ("structure", 1, (("E", 2, ()), ("R", 1, ())))

# Each row: a formula, names, and the tuples with which it is true in ROOM.
VALUES = (
    (R_X, ("x",), ((1,),)),
    (("not", R_X), ("x",), ((0,), (2,))),
    (E_XY, ("x", "y"), ((0, 1), (1, 2), (2, 2))),
    (E_XY, ("y", "x"), ((1, 0), (2, 1), (2, 2))),
    (E_XX, ("x",), ((2,),)),
    (X_IS_Y, ("x", "y"), ((0, 0), (1, 1), (2, 2))),
    (("same", "x", "x"), ("x",), ((0,), (1,), (2,))),
    (("not", ("same", "x", "x")), ("x",), ()),
    (("some", "y", E_XY), ("x",), ((0,), (1,), (2,))),
    (("some", "x", E_XY), ("y",), ((1,), (2,))),
    (("all", "y", E_XY), ("x",), ()),
    (("all", "x", ("or", (E_XY, R_X, ("same", "x", "x0")))), ("x0", "y"), ((0, 2), (2, 1))),
    # names that do not stand in the formula, ahead, between and behind
    (R_X, ("x", "y"), ((1, 0), (1, 1), (1, 2))),
    (R_X, ("y", "x"), ((0, 1), (1, 1), (2, 1))),
    (("and", (R_X, R_Y)), ("x", "z", "y"), ((1, 0, 1), (1, 1, 1), (1, 2, 1))),
    (TRUE, ("z",), ((0,), (1,), (2,))),
    (FALSE, ("z",), ()),
    # no names
    (TRUE, (), ((),)),
    (FALSE, (), ()),
    (("some", "x", R_X), (), ((),)),
    (("all", "x", R_X), (), ()),
    # names that are bound in the formula, too
    (("some", "x", R_X), ("x",), ((0,), (1,), (2,))),
    (("and", (("some", "x", R_X), R_X)), ("x",), ((1,),)),
    (("all", "x", R_X), ("x", "y"), ()),
)

# Each row: a formula, values, and whether it is true in ROOM.
TOLD = (
    (TRUE, {}, True),
    (FALSE, {}, False),
    (("not", TRUE), {}, False),
    (("not", FALSE), {}, True),
    (("and", (TRUE, FALSE)), {}, False),
    (("or", (FALSE, TRUE)), {}, True),
    (("some", "x", TRUE), {}, True),
    (("some", "x", FALSE), {}, False),
    (("all", "x", TRUE), {}, True),
    (("all", "x", FALSE), {}, False),
    (("all", "x", ("some", "y", E_XY)), {}, True),
    (("some", "y", ("all", "x", E_XY)), {}, False),
    (("some", "x", ("all", "y", ("or", (E_XY, X_IS_Y, R_Y)))), {}, False),
    (("some", "x", ("all", "y", ("or", (E_YX, R_X, ("not", E_XX))))), {}, True),
    (E_XY, {"x": 0, "y": 1}, True),
    (E_XY, {"x": 1, "y": 0}, False),
    # values of names that are not free, or do not stand in the formula
    (("some", "x", R_X), {"x": 0}, True),
    (("all", "x", R_X), {"x": 1, "z": 2}, False),
    (R_X, {"x": 1, "y": 0, "z9": 2}, True),
    # a name that is bound twice, within itself too
    (("some", "x", ("and", (R_X, ("some", "x", ("not", R_X))))), {}, True),
    (("some", "x", ("and", (R_X, ("all", "x", R_X)))), {}, False),
    (("all", "x", ("some", "x", R_X)), {}, True),
    (("some", "x", ("all", "x", R_X)), {}, False),
    # it has its own value again behind
    (("some", "x", ("and", (("some", "x", ("not", R_X)), R_X))), {}, True),
    (("some", "x", ("and", (E_XX, ("some", "x", R_X), ("not", R_X)))), {}, True),
    (("all", "x", ("and", (("some", "x", R_X), R_X))), {}, False),
    (("some", "x", ("some", "y", ("and", (E_XY, ("some", "x", ("and", (R_X, ("not", R_Y)))), E_XY)))), {}, True),
    # and is free again behind
    (("and", (("some", "x", ("not", R_X)), R_X)), {"x": 1}, True),
    (("and", (("some", "x", R_X), R_X)), {"x": 0}, False),
    (("and", (R_X, ("all", "x", ("some", "x", E_XX)), R_X)), {"x": 1}, True),
    (("or", (("all", "y", E_XY), X_IS_Y)), {"x": 2, "y": 2}, True),
    (("or", (("all", "y", E_XY), X_IS_Y)), {"x": 2, "y": 1}, False),
)


def choices(names, many):
    """All dicts from the names to so many elements."""
    return [dict(zip(names, row)) for row in product(range(many), repeat=len(names))]


def plain_values(structure, formula, names):
    """The tuples with which a formula is true, by a plain walk."""
    rows = product(range(structure[1]), repeat=len(names))
    return tuple(row for row in rows if plain.holds(structure, formula, dict(zip(names, row))))


class IsTrue(unittest.TestCase):
    def test_table(self):
        for formula, values, told in TOLD:
            with self.subTest(formula=formula, values=values):
                self.assertIs(is_true(ROOM, formula, values), told)
                self.assertIs(plain.holds(ROOM, formula, values), told)

    def check(self, structure, formula):
        for values in choices(sorted(plain.plain_free(formula)), structure[1]):
            told = is_true(structure, formula, values)
            self.assertIs(told, plain.holds(structure, formula, values), (structure, formula, values))

    def test_as_a_plain_walk_in_the_smallest_structures(self):
        for formula in formulas()[::3]:
            for structure in structures(1) + structures(2)[3::13]:
                self.check(structure, formula)

    def test_as_a_plain_walk_in_larger_structures(self):
        for formula in formulas()[::7]:
            for structure in (ROOM, *structures(3)[611::1777]):
                self.check(structure, formula)

    def test_as_a_plain_walk_in_the_widest_structures(self):
        chosen = [formula for formula in formulas()[-300:] if len(plain.plain_free(formula)) <= 2]
        for formula in chosen[::3]:
            for structure in wide_structures(5):
                self.check(structure, formula)

    def test_values_beside_the_free_ones_change_nothing(self):
        for formula in formulas()[::11]:
            names = sorted(plain.plain_free(formula))
            for values in choices(names, 3)[::5]:
                more = {name: 2 for name in ("x", "y", "z", "q", "v0")}
                more.update(values)
                self.assertIs(is_true(ROOM, formula, more), is_true(ROOM, formula, values))

    def test_values_are_left_as_they_are(self):
        for formula in formulas()[::11]:
            values = {"z": 0, "a0": 2, **{name: 1 for name in plain.plain_free(formula)}}
            kept = list(values.items())
            is_true(ROOM, formula, values)
            self.assertEqual(list(values.items()), kept)

    def test_each_of_three_relations_by_its_own_name(self):
        structure = ("structure", 2, (("A", 1, ((0,),)), ("B", 2, ((0, 1),)), ("C", 1, ((1,),))))
        for name, told in (("A", (True, False)), ("C", (False, True))):
            for x in (0, 1):
                self.assertIs(is_true(structure, ("rel", name, ("x",)), {"x": x}), told[x])
        self.assertIs(is_true(structure, ("rel", "B", ("x", "y")), {"x": 0, "y": 1}), True)
        self.assertIs(is_true(structure, ("rel", "B", ("y", "x")), {"x": 0, "y": 1}), False)

    def test_no_relations(self):
        for many in range(1, 6):
            structure = ("structure", many, ())
            two = ("some", "x", ("some", "y", ("not", X_IS_Y)))
            self.assertIs(is_true(structure, two, {}), many >= 2)

    def test_one_element(self):
        for formula in formulas()[::2]:
            self.check(ONE, formula)

    def test_a_hundred_within_one_another_and_more(self):
        for many in (100, 101, 150, 3000):
            formula = R_X
            for k in range(many):
                formula = ("not", formula) if k % 3 else ("and", (formula,))
            nots = sum(1 for k in range(many) if k % 3)
            for x in range(3):
                self.assertIs(is_true(ROOM, formula, {"x": x}), (x == 1) == (nots % 2 == 0))


class AllValues(unittest.TestCase):
    def test_table(self):
        for formula, names, told in VALUES:
            with self.subTest(formula=formula, names=names):
                self.assertEqual(all_values(ROOM, formula, names), told)
                self.assertEqual(plain_values(ROOM, formula, names), told)

    def check(self, structure, formula, names):
        told = all_values(structure, formula, names)
        self.assertEqual(told, plain_values(structure, formula, names), (structure, formula, names))

    def test_as_a_plain_walk_tells(self):
        rooms = (ROOM, ONE, *structures(2)[5::23])
        for formula in [row for row in formulas() if len(plain.plain_free(row)) <= 3][::3]:
            names = tuple(sorted(plain.plain_free(formula)))
            for structure in rooms:
                self.check(structure, formula, names)
                self.check(structure, formula, names[::-1])

    def test_names_that_do_not_stand_in_the_formula(self):
        for formula in [row for row in formulas() if len(plain.plain_free(row)) <= 2][::11]:
            names = tuple(sorted(plain.plain_free(formula)))
            for more in (("q",), ("q", "v1")):
                for order in ((*names, *more), (*more, *names), (*names[:1], *more, *names[1:])):
                    self.check(ROOM, formula, order)

    def test_names_that_are_bound_in_the_formula(self):
        for formula in [row for row in formulas() if len(plain.plain_free(row)) <= 2][::7]:
            names = tuple(sorted(plain.plain_free(formula) | {"x", "y"}))
            self.check(ROOM, formula, names)

    def test_rising_tuples_of_ints(self):
        for formula in formulas()[::23]:
            names = tuple(sorted(plain.plain_free(formula)))
            told = all_values(ROOM, formula, names)
            self.assertIs(type(told), tuple)
            self.assertEqual(list(told), sorted(set(told)))
            for row in told:
                self.assertIs(type(row), tuple)
                self.assertEqual(len(row), len(names))
                self.assertTrue(all(type(x) is int for x in row))

    def test_the_widest_structures(self):
        chosen = [row for row in formulas()[-300:] if len(plain.plain_free(row)) <= 2]
        for formula in chosen[1::9]:
            names = (*sorted(plain.plain_free(formula)), "q")
            for structure in wide_structures(5):
                self.check(structure, formula, names)


class BoundAnew(unittest.TestCase):
    """Names that are bound again within what binds them: only the innermost counts, and tables stay small."""

    def check(self, formula, names):
        for structure in (ROOM, ONE, *structures(2)[5::29]):
            wanted = plain_values(structure, formula, names)
            self.assertEqual(all_values(structure, formula, names), wanted, (structure, formula, names))

    def test_two_and_three_names(self):
        kinds = ("some", "all")
        for one, two, three in product(kinds, repeat=3):
            for x, y, z in product("xy", repeat=3):
                inner = (three, z, ("or", (("and", (E_XY, R_X)), ("not", E_YX))))
                formula = (one, x, ("and", (("or", (R_X, E_XY)), (two, y, ("or", (inner, ("not", R_Y)))))))
                self.check(formula, ("x", "y"))
                self.check(formula, ("y", "z", "x"))

    def test_a_value_from_outside(self):
        formula = ("and", (R_X, ("some", "x", ("and", (("not", R_X), ("some", "y", E_XY))))))
        for x in range(3):
            self.assertIs(is_true(ROOM, formula, {"x": x}), x == 1)
        self.check(formula, ("x",))

    def test_many_times(self):
        # A chain of so many edges, told with two names: what the last of them leaves free is x.
        line = ("structure", 5, (("E", 2, ((0, 1), (1, 2), (2, 3), (3, 4))), ("R", 1, ())))
        for many, told in ((1, ((0,), (1,), (2,), (3,))), (3, ((0,), (1,))), (4, ((0,),)), (5, ()), (300, ())):
            formula = TRUE
            for k in range(many):
                name, edge = (("y", E_XY), ("x", E_YX))[(many - 1 - k) % 2]
                formula = ("some", name, ("and", (edge, formula)))
            self.assertEqual(all_values(line, formula, ("x",)), told)
            self.assertEqual(all_values(ROOM, formula, ("x",)), ((0,), (1,), (2,)))


class ModelsAmong(unittest.TestCase):
    def test_as_one_by_one(self):
        sentences = [row for row in formulas() if not plain.plain_free(row)]
        self.assertGreater(len(sentences), 60)
        for formula in sentences[::5]:
            for rooms in (structures(1), structures(2), structures(3)[5::97], [ROOM], wide_structures(4)):
                wanted = [room for room in rooms if plain.holds(room, formula, {})]
                self.assertEqual(models_among(rooms, formula), wanted, formula)

    def test_the_same_structure_twice(self):
        formula = ("some", "x", R_X)
        self.assertEqual(models_among([ROOM, ROOM, ROOM], formula), [ROOM, ROOM, ROOM])
        self.assertEqual(models_among((ROOM, ROOM), ("not", formula)), [])


class Unchanged(unittest.TestCase):
    def test_what_is_handed_in_stays(self):
        for formula, again in zip(formulas()[::9], formulas()[::9]):
            structure, other = structures(2)[21], structures(2)[21]
            names = tuple(sorted(plain.plain_free(formula)))
            first = all_values(structure, formula, names)
            self.assertEqual(all_values(structure, formula, names), first)
            self.assertEqual((structure, formula), (other, again))
