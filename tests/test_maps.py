import unittest
from itertools import product

from finitestructures.maps import count_maps, decide_map, is_plain, judge_map, least_map, sentence_of
from finitestructures.texts import read, write
from tests import plain, plain_games, plain_maps
from tests.changes import JUNK, Sly, Touchy, changes
from tests.samples import (
    ARROW, BARE, EDGE, HEAD, TAIL, line, ring, small_pairs, structures_of, three_pairs, wide_structures,
)

LOOP = ("structure", 1, (("E", 2, ((0, 0),)),))
NO_ROWS = ("structure", 2, (("E", 2, ()),))

# Formulas, each with whether it is a plain sentence.
PLAIN = (
    ("true", True),
    ("false", False),
    ("some x: true", True),
    ("some x: false", False),
    ("some x: E(x,x) & x=x", True),
    ("some x: some y: E(x,y) & x=y & R(y)", True),
    ("some x: some x: E(x,x) & x=x", True),
    ("all x: E(x,x) & x=x", False),
    ("some x: all y: E(x,y) & x=x", False),
    ("all x: some y: E(x,y) & x=x", False),
    ("some x: ~E(x,x) & x=x", False),
    ("~(some x: E(x,x) & x=x)", False),
    ("some x: E(x,x) | x=x", False),
    ("some x: E(x,x) & (E(x,x) | x=x)", False),
    ("some x: E(x,x) & (E(x,x) & x=x)", False),
    ("some x: E(x,x) & (some y: E(x,y) & y=y)", False),
    ("(some x: E(x,x) & x=x) & (some y: E(y,y) & y=y)", False),
    ("some x: E(x,y) & x=x", False),
    ("E(x,x) & x=x", False),
    ("some x: some y: E(x,z) & x=y", False),
    ("some x: x=y & x=x", False),
    # No and stands about what is within.
    ("some x: E(x,x)", False),
    ("E(x,y)", False),
    ("x=x", False),
    ("some x: x=x", False),
)


def five_pairs():
    """Pairs of structures of up to five elements with one or more relations."""
    rooms = [ring(3), ring(4), ring(5), line(3), line(5), EDGE, LOOP]
    found = list(product(rooms, repeat=2)) + list(product(wide_structures(5) + wide_structures(3), repeat=2))
    return found + list(product(BARE, repeat=2))


class Maps(unittest.TestCase):
    def check(self, structure, other):
        wanted = plain_maps.maps(structure, other)
        case = (structure, other)
        self.assertEqual(least_map(structure, other), min(wanted, default=None), case)
        self.assertEqual(count_maps(structure, other), len(wanted), case)
        paper = decide_map(structure, other)
        self.assertEqual(paper, ("map", wanted[0]) if wanted else ("sentence", sentence_of(structure)), case)
        self.assertIs(judge_map(structure, other, paper), True, case)
        # Just one of both is there.
        sentence = sentence_of(structure)
        self.assertIs(plain.holds(structure, sentence, {}), True, case)
        self.assertIs(plain.holds(other, sentence, {}), len(wanted) > 0, case)
        self.assertIs(judge_map(structure, other, ("sentence", sentence)), len(wanted) == 0, case)

    def test_table(self):
        for structure, other, told, many in (
            (ARROW, EDGE, (0, 1), 2),
            (EDGE, ARROW, None, 0),
            (EDGE, LOOP, (0, 0), 1),
            (LOOP, EDGE, None, 0),
            (NO_ROWS, ARROW, (0, 0), 4),
            (ARROW, NO_ROWS, None, 0),
            (ring(5), ring(3), (0, 1, 0, 1, 2), 30),
            (ring(3), ring(5), None, 0),
            (ring(4), EDGE, (0, 1, 0, 1), 2),
            (line(2), line(5), (0, 1), 10),
            (line(5), line(5), (0, 1, 2, 3, 4), 1),
            (BARE[4], BARE[4], (0, 0, 0, 0, 0), 3125),
            (BARE[4], BARE[0], (0, 0, 0, 0, 0), 1),
            (TAIL, HEAD, None, 0),
        ):
            with self.subTest(structure=structure, other=other):
                self.assertEqual(least_map(structure, other), told)
                self.assertEqual(count_maps(structure, other), many)

    def test_all_tuples_over_small_pairs(self):
        for structure, other in [*small_pairs(), *three_pairs()]:
            self.check(structure, other)

    def test_all_tuples_over_larger_pairs(self):
        for structure, other in five_pairs():
            self.check(structure, other)

    def test_kinds_of_values(self):
        told = decide_map(ring(4), EDGE)
        self.assertIs(type(told[1]), tuple)
        self.assertTrue(all(type(x) is int for x in told[1]))
        self.assertIs(type(count_maps(ring(4), EDGE)), int)

    def test_more_elements_than_five(self):
        # Rows of images that no later row asks for are counted together, however many elements there are.
        chain = ("structure", 40, (("E", 2, tuple((x, x + 1) for x in range(39))),))
        self.assertEqual(count_maps(chain, ring(5)), 5 * 2 ** 39)
        self.assertEqual(count_maps(("structure", 30, ()), BARE[4]), 5 ** 30)
        self.assertEqual(least_map(chain, ring(5)), tuple(k % 2 for k in range(40)))


class SentenceOf(unittest.TestCase):
    def test_table(self):
        for structure, text in (
            (EDGE, "some e0: some e1: E(e0,e1) & E(e1,e0)"),
            (ARROW, "some e0: some e1: E(e0,e1)"),
            (TAIL, "some e0: some e1: E(e0,e1) & R(e0)"),
            (BARE[0], "some e0: true"),
            (BARE[2], "some e0: some e1: some e2: true"),
            (LOOP, "some e0: E(e0,e0)"),
        ):
            self.assertEqual(write(sentence_of(structure)), text)

    def test_an_and_about_one_row_and_none(self):
        row = ("rel", "E", ("e0", "e1"))
        self.assertEqual(sentence_of(ARROW), ("some", "e0", ("some", "e1", ("and", (row,)))))
        self.assertEqual(sentence_of(BARE[0]), ("some", "e0", ("and", ())))

    def test_all_of_some_kinds(self):
        for structure in structures_of((("E", 2), ("R", 1)), 2)[::3] + wide_structures(5) + wide_structures(4):
            rows = []
            for name, _, told in structure[2]:
                rows.extend(("rel", name, tuple(f"e{x}" for x in row)) for row in told)
            formula = ("and", tuple(rows))
            for x in reversed(range(structure[1])):
                formula = ("some", f"e{x}", formula)
            self.assertEqual(sentence_of(structure), formula)
            self.assertIs(is_plain(formula), True)


class IsPlain(unittest.TestCase):
    def test_table(self):
        for text, told in PLAIN:
            with self.subTest(text=text):
                self.assertIs(is_plain(read(text)), told)
                self.assertIs(plain_maps.is_plain(read(text)), told)

    def test_rows_of_one_and_of_none(self):
        row = ("rel", "E", ("x", "x"))
        for formula, told in (
            (("some", "x", ("and", (row,))), True),
            (("some", "x", ("and", ())), True),
            (("and", ()), True),
            (("and", (row,)), False),
            (("some", "x", ("or", (row,))), False),
            (("some", "x", ("or", ())), False),
            (("some", "x", ("and", (("and", (row,)),))), False),
            (("some", "x", ("and", (("and", ()),))), False),
            (("some", "x", ("and", (("or", ()),))), False),
            (("some", "x", ("not", ("and", ()))), False),
            (("and", (("some", "x", row),)), False),
        ):
            with self.subTest(formula=formula):
                self.assertIs(is_plain(formula), told)
                self.assertIs(plain_maps.is_plain(formula), told)

    def test_some_far_within_one_another(self):
        for many in (100, 3000):
            formula = ("and", (("same", "x", "x"),))
            for _ in range(many):
                formula = ("some", "x", formula)
            self.assertIs(is_plain(formula), True)
            self.assertIs(is_plain(("not", formula)), False)
            self.assertIs(is_plain(("some", "y", ("all", "x", formula))), False)


class JudgeMap(unittest.TestCase):
    def check(self, structure, other, paper, told=None):
        wanted = plain_maps.judge_map(structure, other, paper)
        self.assertIs(judge_map(structure, other, paper), wanted, (structure, other, paper))
        if told is not None:
            self.assertIs(wanted, told, (structure, other, paper))

    def test_changes_at_one_place(self):
        for structure, other in (
            (ARROW, EDGE), (EDGE, ARROW), (TAIL, HEAD), (ring(3), EDGE), (BARE[2], BARE[1]), (ring(4), EDGE),
            (LOOP, EDGE), (ARROW, NO_ROWS), (line(3), line(4)),
        ):
            paper = decide_map(structure, other)
            self.check(structure, other, paper, True)
            for changed in changes(paper):
                self.check(structure, other, changed)

    def test_each_tuple(self):
        pairs = ((ring(4), EDGE), (ARROW, line(3)), (TAIL, TAIL), (BARE[1], BARE[2]), (BARE[2], BARE[1]))
        for structure, other in pairs:
            for many in range(structure[1] + 2):
                for images in product(range(other[1]), repeat=many):
                    self.check(structure, other, ("map", images))

    def test_sentences_that_someone_else_made(self):
        row = ("rel", "E", ("x", "y"))
        for structure, other, formula, told in (
            (EDGE, ARROW, read("some x: some y: E(x,y) & E(y,x)"), True),
            (EDGE, ARROW, read("some x: some y: some z: E(x,y) & E(y,z)"), True),
            (EDGE, ARROW, read("some x: some y: some z: E(x,y) & E(y,z) & x=z"), True),
            (EDGE, ARROW, read("some x: some y: E(x,y) & x=x"), False),
            (ARROW, EDGE, read("some x: some y: E(x,y) & E(y,x)"), False),
            # true in the first and not in the second one, but not plain
            (EDGE, ARROW, read("all x: some y: E(x,y) & x=x"), False),
            (EDGE, ARROW, read("some x: some y: E(x,y) & E(y,x) & true"), False),
            (EDGE, ARROW, read("some x: some y: E(x,y) & (E(y,x) & x=x)"), False),
            (EDGE, ARROW, read("~(some x: some y: E(x,y) & ~E(y,x))"), False),
            (EDGE, ARROW, ("not", ("not", read("some x: some y: E(x,y) & E(y,x)"))), False),
            (EDGE, ARROW, ("or", (read("some x: some y: E(x,y) & E(y,x)"),)), False),
            (ARROW, EDGE, read("some x: all y: ~E(x,y) & x=x"), False),
            (ARROW, NO_ROWS, ("some", "x", ("some", "y", ("and", (row,)))), True),
            (ARROW, NO_ROWS, ("some", "x", ("some", "y", row)), False),
            (ARROW, NO_ROWS, ("some", "x", ("some", "y", ("and", [row]))), False),
            # free names
            (EDGE, ARROW, read("some x: E(x,y) & E(y,x)"), False),
            (ARROW, NO_ROWS, ("and", (row,)), False),
            # relations
            (EDGE, ARROW, read("some x: some y: E(x,y) & E(y,x) & F(x,x)"), False),
            (EDGE, ARROW, read("some x: some y: E(x,y) & E(y,x) & E(x)"), False),
            (TAIL, HEAD, read("some x: some y: E(x,y) & R(x)"), True),
            (TAIL, HEAD, read("some x: some y: E(x,y) & R(x,x)"), False),
            (TAIL, HEAD, read("some x: some y: E(x,y) & R(y)"), False),
        ):
            with self.subTest(formula=formula):
                self.check(structure, other, ("sentence", formula), told)

    def test_no_sentence_where_a_map_is(self):
        for structure, other in list(small_pairs())[::3]:
            there = len(plain_maps.maps(structure, other)) > 0
            for text, told in PLAIN:
                formula = read(text)
                if plain_games.is_formula(structure, formula):
                    self.check(structure, other, ("sentence", formula))
                    if there:
                        self.assertIs(judge_map(structure, other, ("sentence", formula)), False)

    def test_what_is_no_paper_at_all(self):
        for structure, other in ((ARROW, EDGE), (EDGE, ARROW)):
            kind, told = decide_map(structure, other)
            for junk in (*JUNK, range(2), 3.5, {1, 2}, frozenset(), len, NotImplemented):
                for paper in (junk, (junk,), (junk, told), (junk, junk), ("map", junk), ("sentence", junk)):
                    self.check(structure, other, paper, False)
            turned = {"map": "sentence", "sentence": "map"}[kind]
            for paper in ([kind, told], (kind, told, ()), (kind,), (told, kind), told, (kind, (told,)), (turned, told)):
                self.check(structure, other, paper, False)
        for paper in (("map", [0, 1]), ("map", (False, True)), ("map", (0, 1.0)), ("map", (0, 2)), ("map", (0, -1))):
            self.check(ARROW, EDGE, paper, False)

    def test_values_that_are_like_others_or_cannot_be_compared(self):
        for odd in (Sly(), Touchy()):
            for structure, other in ((ARROW, EDGE), (EDGE, ARROW)):
                for paper in (
                    odd, (odd,), (odd, (0, 1)), (odd, odd), ("map", odd), ("map", (0, odd)), ("sentence", odd),
                    ("sentence", ("and", (odd,))), ("sentence", ("some", odd, ("and", ()))), ("sentence", (odd, ())),
                    ("sentence", ("some", "x", odd)), ("sentence", ("and", odd)),
                ):
                    self.assertIs(judge_map(structure, other, paper), False)

    def test_some_far_within_one_another(self):
        formula = read("some x: some y: E(x,y) & E(y,x)")
        for k in range(98):
            formula = ("some", "xyz"[k % 3], formula)
        self.assertIs(judge_map(EDGE, ARROW, ("sentence", formula)), True)
        self.assertIs(judge_map(EDGE, EDGE, ("sentence", formula)), False)

    def test_what_is_handed_in_stays(self):
        paper = ["map", [0, {1: [2]}]]
        one, two = ring(5), ring(3)
        told = [(judge_map(one, two, paper), decide_map(one, two), count_maps(one, two)) for _ in range(2)]
        self.assertEqual(told[0], told[1])
        self.assertEqual(paper, ["map", [0, {1: [2]}]])
