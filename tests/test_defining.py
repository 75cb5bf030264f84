import unittest
from itertools import product

from finitestructures.defining import define, defined_sets, is_definition
from finitestructures.formulas import rank
from finitestructures.texts import read
from tests import plain_games, plain_maps
from tests.changes import JUNK, Sly, Touchy, changes
from tests.samples import ARROW, BARE, EDGE, HEAD, TAIL, line, ring, structures_of, subsets, wide_structures

KINDS = ((("E", 2),), (("P", 1), ("Q", 1)), (("E", 2), ("R", 1)), ())


def rooms(most):
    """All structures of one and two elements of some kinds, and some of three and, if asked for, of four."""
    found = []
    for kinds in KINDS:
        found.extend(structures_of(kinds, 1) + structures_of(kinds, 2))
        for many, few in ((3, 9), (4, 4)):
            if many <= most and (kinds, many) != (KINDS[2], 4):
                every = structures_of(kinds, many)
                found.extend(every[::1 + len(every) // few])
    return found + [line(3), ring(3)] + [room for room in (line(4), ring(4)) if most >= 4]


def scattered_rows(many, places):
    """Some sets of tuples: none, all, and a few between them."""
    every = tuple(product(range(many), repeat=places))
    diagonal = tuple(row for row in every if len(set(row)) < 2)
    apart = tuple(row for row in every if len(set(row)) == len(row))
    return sorted({(), every, diagonal, apart, every[:1], every[-1:], every[1:], every[::2], every[::3]})


class Define(unittest.TestCase):
    def check(self, structure, many, rows):
        paper = define(structure, many, rows)
        case = (structure, many, rows)
        self.assertEqual(paper[0], "moved" if plain_maps.is_moved(structure, rows) else "formula", case)
        self.assertIs(plain_maps.is_definition(structure, many, rows, paper), True, case)
        self.assertIs(is_definition(structure, many, rows, paper), True, case)
        return paper

    def test_table(self):
        self.assertEqual(define(EDGE, 1, ((0,),)), ("moved", (1, 0), (0,)))
        for structure, many, rows, told in (
            (ARROW, 1, ((0,),), "formula"),
            (ARROW, 1, ((1,),), "formula"),
            (ARROW, 2, ((0, 1), (1, 1)), "formula"),
            (EDGE, 2, ((0, 0), (1, 1)), "formula"),
            (EDGE, 2, ((0, 0),), "moved"),
            (EDGE, 2, ((0, 1), (1, 1)), "moved"),
            (BARE[3], 1, ((0,), (1,), (2,)), "moved"),
            (BARE[3], 1, ((0,), (1,), (2,), (3,)), "formula"),
            (ring(4), 2, tuple((x, (x + 2) % 4) for x in range(4)), "formula"),
            (line(4), 1, ((1,), (2,)), "formula"),
        ):
            with self.subTest(structure=structure, many=many, rows=rows):
                self.assertEqual(self.check(structure, many, rows)[0], told)

    def test_no_tuples_and_all_of_them(self):
        for structure in rooms(4):
            for many in range(3):
                self.assertEqual(self.check(structure, many, ())[0], "formula")
                every = tuple(product(range(structure[1]), repeat=many))
                self.assertEqual(self.check(structure, many, every)[0], "formula")

    def test_no_place(self):
        for structure in (ARROW, BARE[0], BARE[3], ring(4)):
            for rows in ((), ((),)):
                self.assertEqual(self.check(structure, 0, rows)[0], "formula")

    def test_all_sets_over_small_structures(self):
        for structure in rooms(3):
            for rows in subsets(tuple(product(range(structure[1])))):
                self.check(structure, 1, rows)
            if structure[1] < 3:
                for rows in subsets(tuple(product(range(structure[1]), repeat=2))):
                    self.check(structure, 2, rows)

    def test_some_sets_over_larger_structures(self):
        for structure in rooms(4):
            for many in (2, 3) if structure[1] < 4 else (1, 2):
                for rows in scattered_rows(structure[1], many)[::2 if many == 3 else 1]:
                    self.check(structure, many, rows)

    def test_three_points_of_four_elements(self):
        for structure in (line(4), ring(4), BARE[3], *wide_structures(4)):
            for rows in scattered_rows(4, 3)[::2]:
                paper = define(structure, 3, rows)
                self.assertEqual(paper[0], "moved" if plain_maps.is_moved(structure, rows) else "formula")
                self.assertIs(is_definition(structure, 3, rows, paper), True)

    def test_shapes_of_formulas(self):
        for structure in rooms(4):
            for many in range(3):
                paper = define(structure, many, tuple(product(range(structure[1]), repeat=many)))
                self.assertTrue(plain_games.is_formula(structure, paper[1]))
                self.assertLessEqual(rank(paper[1]), 6)

    def test_what_is_handed_in_stays(self):
        rows = ((0, 1), (2, 1))
        first = define(line(3), 2, rows)
        self.assertEqual(define(line(3), 2, rows), first)
        self.assertEqual(rows, ((0, 1), (2, 1)))


class IsDefinition(unittest.TestCase):
    def check(self, structure, many, rows, paper, told=None):
        wanted = plain_maps.is_definition(structure, many, rows, paper)
        self.assertIs(is_definition(structure, many, rows, paper), wanted, (structure, many, rows, paper))
        if told is not None:
            self.assertIs(wanted, told, (structure, many, rows, paper))

    def test_changes_at_one_place(self):
        cases = (
            (EDGE, 1, ((0,),)), (EDGE, 2, ((0, 1), (1, 1))), (BARE[2], 1, ((1,), (2,))), (ring(3), 2, ((0, 1),)),
            (TAIL, 1, ((0,),)), (HEAD, 1, ()), (ARROW, 2, ((1, 0),)), (BARE[1], 2, ((0, 0), (1, 1))),
            (BARE[0], 0, ((),)), (("structure", 1, (("R", 1, ()),)), 1, ((0,),)),
        )
        for case in cases:
            paper = define(*case)
            self.check(*case, paper, True)
            for changed in changes(paper):
                self.check(*case, changed)

    def test_other_rows(self):
        for structure, many in ((EDGE, 1), (ARROW, 1), (EDGE, 2), (BARE[2], 1), (TAIL, 1)):
            every = subsets(tuple(product(range(structure[1]), repeat=many)))
            for rows, others in product(every, repeat=2):
                self.check(structure, many, others, define(structure, many, rows))

    def test_formulas_that_someone_else_made(self):
        for structure, many, rows, text, told in (
            (ARROW, 1, ((0,),), "some y: E(v0,y)", True),
            (ARROW, 1, ((1,),), "some y: E(v0,y)", False),
            (ARROW, 1, ((1,),), "~(some v1: E(v0,v1))", True),
            (ARROW, 1, ((1,),), "some v0: E(v0,v0)", False),
            (ARROW, 1, (), "some v0: E(v0,v0)", True),
            (ARROW, 1, (), "false", True),
            (ARROW, 1, ((0,), (1,)), "true", True),
            (ARROW, 1, ((0,), (1,)), "v0=v0", True),
            (ARROW, 1, ((0,), (1,)), "v1=v1", False),
            (ARROW, 1, ((0,), (1,)), "x=x", False),
            (ARROW, 2, ((0, 0), (0, 1), (1, 0), (1, 1)), "v1=v1", True),
            (ARROW, 2, ((0, 1),), "E(v0,v1)", True),
            (ARROW, 2, ((1, 0),), "E(v1,v0)", True),
            (ARROW, 2, ((0, 1),), "E(v1,v0)", False),
            (ARROW, 2, ((0, 1),), "E(v0,v2)", False),
            (ARROW, 0, (), "some x: E(x,x)", True),
            (ARROW, 0, ((),), "some x: some y: E(x,y)", True),
            (ARROW, 0, ((),), "some x: E(x,v0)", False),
            (ARROW, 1, ((0,),), "some y: F(v0,y)", False),
            (ARROW, 1, ((0,),), "(some y: E(v0,y)) | F(v0,v0)", False),
            (ARROW, 1, ((0,),), "some y: E(v0)", False),
            (TAIL, 1, ((0,),), "R(v0)", True),
            (TAIL, 1, ((0,),), "R(v0) & (some v0: ~R(v0))", True),
            (TAIL, 1, ((0,),), "R(v0,v0)", False),
            (TAIL, 1, ((0,),), "R(v0) | E(v0)", False),
            (TAIL, 1, ((0,),), "some a: some b: some c: some d: some e: some f: R(v0)", True),
        ):
            with self.subTest(text=text, rows=rows):
                self.check(structure, many, rows, ("formula", read(text)), told)

    def test_automorphisms_that_someone_else_found(self):
        for rows, images, row, told in (
            (((0,), (1,)), (0, 2, 1), (1,), True),
            (((0,), (1,)), (2, 1, 0), (0,), True),
            (((0,), (1,)), (1, 2, 0), (1,), True),
            (((0,), (1,)), (1, 2, 0), (0,), False),
            (((0,), (1,)), (1, 2, 0), (2,), False),
            (((0,), (1,)), (1, 0, 2), (1,), False),
            (((0,), (1,)), (2, 2, 2), (0,), False),
            (((0,), (1,)), (0, 2), (1,), False),
            (((0,), (1,)), (0, 2, 1, 3), (1,), False),
            (((0,), (1,)), (0, 2, 3), (1,), False),
            (((0,), (1,)), (0, -1, 1), (1,), False),
            (((0,), (1,)), (0, 2, True), (1,), False),
            (((0,), (1,)), (0, 2, 1), (True,), False),
            (((0,), (1,)), [0, 2, 1], (1,), False),
            (((0,), (1,)), (0, 2, 1), [1], False),
            (((0,), (1,)), (0, 2, 1), 1, False),
            (((0,), (1,)), (0, 2, 1), (1, 1), False),
            (((0,), (1,)), (0, 2, 1), (), False),
            ((), (0, 2, 1), (1,), False),
            (((0,), (1,), (2,)), (0, 2, 1), (1,), False),
        ):
            with self.subTest(rows=rows, images=images, row=row):
                self.check(BARE[2], 1, rows, ("moved", images, row), told)
        self.check(ARROW, 1, ((0,),), ("moved", (1, 0), (0,)), False)
        self.check(EDGE, 1, ((0,),), ("moved", (0,), (1, 0)), False)
        self.check(EDGE, 1, ((0,),), ((1, 0), "moved", (0,)), False)

    def test_both_papers_are_never_there(self):
        formulas = [read(text) for text in ("true", "false", "E(v0,v0)", "some x: E(v0,x)", "all x: E(x,v0) | v0=x")]
        for structure in structures_of((("E", 2),), 2):
            for rows in subsets(((0,), (1,))):
                found = [is_definition(structure, 1, rows, ("formula", formula)) for formula in formulas]
                moved = [
                    is_definition(structure, 1, rows, ("moved", images, row))
                    for images in product(range(2), repeat=2) for row in ((0,), (1,))
                ]
                self.assertFalse(any(found) and any(moved))

    def test_what_is_no_paper_at_all(self):
        for case in ((EDGE, 1, ((0,),)), (ARROW, 1, ((0,),))):
            kind, *told = define(*case)
            for junk in (*JUNK, range(3), 3.5, {1, 2}, frozenset(), len, NotImplemented):
                for paper in (junk, (junk,), (junk, junk), (junk, *told), (junk, junk, junk)):
                    self.check(*case, paper, False)
                for word in ("formula", "moved"):
                    for paper in ((word,), (word, junk), (word, junk, junk), (word, junk, (0,)), (word, (1, 0), junk)):
                        self.check(*case, paper, paper == ("moved", (1, 0), (0,)) and case[0] == EDGE)
            others = ([kind, *told], (kind, *told, ()), (kind, *told[:-1]), (kind, tuple(told)), (*told, kind), told)
            for paper in others:
                self.check(*case, paper, False)

    def test_values_that_are_like_others_or_cannot_be_compared(self):
        for odd in (Sly(), Touchy()):
            for case in ((EDGE, 1, ((0,),)), (ARROW, 1, ((0,),))):
                for paper in (
                    odd, (odd,), (odd, odd), (odd, odd, odd), (odd, (1, 0), (0,)), ("moved", odd, (0,)),
                    ("moved", (1, 0), odd), ("moved", (1, odd), (0,)), ("moved", (1, 0), (odd,)), ("formula", odd),
                    ("formula", (odd, "v0", "v0")), ("formula", ("same", odd, "v0")), ("formula", ("and", (odd,))),
                ):
                    self.assertIs(is_definition(*case, paper), False)

    def test_far_within_one_another(self):
        formula = read("some y: E(v0,y)")
        for k in range(100):
            around = (("not", ("not", formula)), ("and", (formula,)), ("all", "x", formula), ("some", "y", formula))
            formula = around[k % 4]
        self.assertIs(is_definition(ARROW, 1, ((0,),), ("formula", formula)), True)
        self.assertIs(is_definition(ARROW, 1, ((1,),), ("formula", formula)), False)


class DefinedSets(unittest.TestCase):
    def test_table(self):
        for structure, told in (
            (ARROW, 4), (EDGE, 2), (TAIL, 4), (BARE[0], 2), (BARE[4], 2), (line(5), 32), (ring(5), 2),
            (("structure", 5, (("E", 2, ((0, 1), (1, 0))), ("R", 1, ((2,),)))), 8),
        ):
            self.assertEqual(defined_sets(structure), told)

    def test_each_set_by_itself(self):
        for structure in rooms(4) + structures_of((("E", 2),), 3)[::5]:
            sets = subsets(tuple(product(range(structure[1]))))
            wanted = [rows for rows in sets if not plain_maps.is_moved(structure, rows)]
            self.assertEqual(defined_sets(structure), len(wanted), structure)
            self.assertEqual(len([rows for rows in sets if define(structure, 1, rows)[0] == "formula"]), len(wanted))
