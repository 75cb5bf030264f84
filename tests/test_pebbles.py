import unittest
from itertools import product

from finitestructures.formulas import names_in, parts, rank
from finitestructures.pebbles import fewest_pebbles, greatest_system, is_system, part
from tests import plain_maps
from tests.changes import JUNK, Sly, Touchy, changes
from tests.samples import (
    ARROW, BARE, EDGE, HEAD, TAIL, line, point_pairs, ring, small_pairs, structures_of, subsets, three_pairs,
    wide_structures,
)

EMPTY = ((), ())
SIX = ring(6)
THREES = [pair for half in ((0, 1, 2), (3, 4, 5)) for pair in product(half, repeat=2) if pair[0] != pair[1]]
TWO_THREES = ("structure", 6, (("E", 2, tuple(THREES)),))


def path(many):
    """Elements one after the other, with edges both ways between neighbours."""
    rows = tuple((x, y) for x in range(many) for y in range(many) if abs(x - y) == 1)
    return ("structure", many, (("E", 2, rows),))


class GreatestSystem(unittest.TestCase):
    def check(self, structure, other, pebbles):
        wanted = plain_maps.greatest_system(structure, other, pebbles)
        self.assertEqual(greatest_system(structure, other, pebbles), wanted, (structure, other, pebbles))
        return wanted

    def test_table(self):
        for structure, other, pebbles, told in (
            (BARE[0], BARE[0], 1, (EMPTY, ((0,), (0,)))),
            (ARROW, ARROW, 1, (EMPTY, *[((x,), (y,)) for x in range(2) for y in range(2)])),
            (ARROW, EDGE, 1, (EMPTY, *[((x,), (y,)) for x in range(2) for y in range(2)])),
            (ARROW, EDGE, 2, None),
            (TAIL, HEAD, 1, (EMPTY, ((0,), (1,)), ((1,), (0,)))),
            (TAIL, HEAD, 2, None),
            (BARE[0], BARE[1], 1, (EMPTY, ((0,), (0,)), ((0,), (1,)))),
            (BARE[0], BARE[1], 2, None),
        ):
            with self.subTest(structure=structure, other=other, pebbles=pebbles):
                self.assertEqual(greatest_system(structure, other, pebbles), told)
                self.assertEqual(plain_maps.greatest_system(structure, other, pebbles), told)

    def test_word_by_word_over_small_pairs(self):
        for structure, other in small_pairs():
            for pebbles in (1, 2):
                self.check(structure, other, pebbles)
        for structure, other in list(small_pairs())[::9]:
            self.check(structure, other, 3)

    def test_word_by_word_over_larger_pairs(self):
        for structure, other in three_pairs()[::2]:
            self.check(structure, other, 2)
        for structure, other in ((ring(4), ring(5)), (line(4), line(5)), (BARE[3], BARE[4]), (path(4), ring(4))):
            for pebbles in (1, 2):
                self.check(structure, other, pebbles)
        self.check(BARE[2], BARE[3], 3)
        self.check(ring(3), ring(3), 3)
        self.check(line(3), line(3), 3)
        self.check(SIX, TWO_THREES, 2)

    def test_it_holds_all_others(self):
        for structure, other in list(product(structures_of((("E", 2),), 2), repeat=2))[::3]:
            found = [rows for rows in subsets(plain_maps.positions(structure, other, 1))
                     if plain_maps.is_system(structure, other, 1, tuple(sorted(rows)))]
            every = tuple(sorted({pair for rows in found for pair in rows})) or None
            self.assertEqual(greatest_system(structure, other, 1), every)

    def test_more_pebbles_than_elements(self):
        for pebbles in (3, 4):
            for structure, other in ((BARE[0], BARE[0]), (BARE[0], BARE[1]), (EDGE, EDGE), (ARROW, EDGE)):
                self.check(structure, other, pebbles)


class Part(unittest.TestCase):
    def check(self, structure, other, pebbles):
        case = (structure, other, pebbles)
        paper = part(structure, other, pebbles)
        rows = greatest_system(structure, other, pebbles)
        self.assertIs(type(paper), tuple)
        if rows is None:
            self.assertEqual((len(paper), paper[0]), (2, "sentence"))
            self.assertIs(plain_maps.is_parting_sentence(structure, other, pebbles, paper[1]), True, case)
            self.assertLessEqual(len(names_in(paper[1])), pebbles)
        else:
            self.assertEqual((len(paper), paper[0]), (2, "system"))
            self.assertIs(is_system(structure, other, pebbles, paper[1]), True, case)
        return paper

    def test_table(self):
        for structure, other, pebbles, told in (
            (ARROW, EDGE, 1, "system"), (ARROW, EDGE, 2, "sentence"), (EDGE, ARROW, 2, "sentence"),
            (TAIL, HEAD, 1, "system"), (TAIL, HEAD, 2, "sentence"), (BARE[3], BARE[4], 3, "system"),
            (BARE[1], BARE[2], 3, "sentence"), (BARE[1], BARE[2], 2, "system"), (ring(4), ring(5), 2, "system"),
            (ring(4), ring(5), 3, "sentence"), (line(4), line(5), 2, "sentence"),
            (SIX, TWO_THREES, 2, "system"), (SIX, TWO_THREES, 3, "sentence"),
            (path(4), path(5), 2, "system"), (path(4), path(5), 3, "sentence"),
            (EDGE, EDGE, 3, "system"), (ring(5), ring(5), 3, "system"),
        ):
            with self.subTest(structure=structure, other=other, pebbles=pebbles):
                self.assertEqual(self.check(structure, other, pebbles)[0], told)

    def test_small_pairs(self):
        for structure, other in small_pairs():
            for pebbles in (1, 2, 3):
                self.check(structure, other, pebbles)

    def test_larger_pairs(self):
        rooms = [ring(3), ring(4), ring(5), line(3), line(4), line(5), path(3), path(4), path(5), EDGE, ARROW]
        rooms += structures_of((("E", 2),), 4)[1234::15011] + structures_of((("E", 2),), 3)[77::151]
        for structure, other in product(rooms, repeat=2):
            for pebbles in (1, 2, 3):
                self.check(structure, other, pebbles)
        for structure, other in product(wide_structures(5) + wide_structures(4), repeat=2):
            for pebbles in (1, 2, 3):
                self.check(structure, other, pebbles)
        for structure, other in product(BARE, repeat=2):
            for pebbles in (1, 2, 3):
                self.check(structure, other, pebbles)

    def test_names_are_used_again(self):
        paper = self.check(line(5), line(4), 2)
        self.assertEqual(paper[0], "sentence")
        self.assertGreater(rank(paper[1]), 2)

    def test_bounds_of_formulas(self):
        # Two pairs that take two pebbles the most rounds, found by going through all structures without loops.
        late = (("01 02 04 10 13 20 23", "01 02 03 10 14 20 23"), ("01 04 12 13 23 30", "01 02 12 14 23 30"))
        for texts in late:
            rows = [tuple((int(x), int(y)) for x, y in text.split()) for text in texts]
            structure, other = [("structure", 5, (("E", 2, row),)) for row in rows]
            for pebbles in (2, 3):
                for formula in (self.check(structure, other, pebbles)[1], self.check(other, structure, pebbles)[1]):
                    self.assertLessEqual(rank(formula), 6)
                    self.assertLess(parts(formula), 1000)


class IsSystem(unittest.TestCase):
    def check(self, structure, other, pebbles, rows, told=None):
        wanted = plain_maps.is_system(structure, other, pebbles, rows)
        self.assertIs(is_system(structure, other, pebbles, rows), wanted, (structure, other, pebbles, rows))
        if told is not None:
            self.assertIs(wanted, told, (structure, other, pebbles, rows))

    def cases(self):
        found = [(BARE[0], BARE[0], 2), (EDGE, EDGE, 2), (TAIL, HEAD, 1), (BARE[1], BARE[2], 2), (ARROW, EDGE, 1)]
        return [(*case, greatest_system(*case)) for case in found]

    def test_changes_at_one_place(self):
        for structure, other, pebbles, rows in self.cases():
            self.check(structure, other, pebbles, rows, True)
            for changed in changes(rows):
                self.check(structure, other, pebbles, changed)

    def test_left_out_and_put_in(self):
        for structure, other, pebbles, rows in self.cases():
            for at in range(len(rows)):
                self.check(structure, other, pebbles, rows[:at] + rows[at + 1:])
                self.check(structure, other, pebbles, rows[:at] + rows[at:at + 1] + rows[at:], False)
                self.check(structure, other, pebbles, rows[at:] + rows[:at], at == 0)
            for pair in plain_maps.positions(BARE[2], BARE[2], pebbles + 1):
                self.check(structure, other, pebbles, tuple(sorted({*rows, pair})))
            self.check(structure, other, pebbles, rows[::-1], len(rows) < 2)
            self.check(structure, other, pebbles, tuple((two, one) for one, two in rows))

    def test_smaller_systems(self):
        # The positions along one automorphism, or along some of them, are a system, too.
        for structure, pebbles in ((EDGE, 2), (ring(3), 2), (ring(4), 2), (BARE[2], 3)):
            images = plain_maps.isomorphisms(structure, structure)
            for chosen in (images[:1], images[-1:], images[:2], images):
                every = [row for many in range(pebbles + 1) for row in product(range(structure[1]), repeat=many)]
                rows = {(row, plain_maps.led(row, order)) for order in chosen for row in every}
                self.check(structure, structure, pebbles, tuple(sorted(rows)), True)
                self.check(structure, structure, pebbles, tuple(sorted(rows - {EMPTY})), False)

    def test_another_number_of_pebbles(self):
        for structure in (EDGE, BARE[2], ring(3)):
            for pebbles in (1, 2, 3):
                rows = greatest_system(structure, structure, pebbles)
                for asked in (1, 2, 3):
                    self.check(structure, structure, asked, rows, asked == pebbles)

    def test_what_is_not_fair(self):
        every = tuple(sorted(point_pairs(EDGE, EDGE, 2)))
        for structure, other in ((EDGE, EDGE), (ARROW, EDGE), (BARE[1], BARE[1]), (TAIL, HEAD)):
            self.check(structure, other, 2, every, False)

    def test_subsets_of_all_positions(self):
        for structure, other in ((ARROW, EDGE), (EDGE, EDGE), (TAIL, HEAD), (BARE[0], BARE[1])):
            for rows in subsets(plain_maps.positions(structure, other, 1)):
                self.check(structure, other, 1, tuple(sorted(rows)))

    def test_what_is_no_system_at_all(self):
        bad = (range(2), {EMPTY}, "rows", 3.5, [EMPTY], (EMPTY, None), (None, EMPTY), (), (EMPTY,), ((), EMPTY))
        for value in (*JUNK, *bad):
            self.check(EDGE, EDGE, 2, value, False)
        rows = greatest_system(EDGE, EDGE, 2)
        self.check(EDGE, EDGE, 2, list(rows), False)
        self.check(EDGE, EDGE, 2, tuple(list(pair) for pair in rows), False)
        self.check(EDGE, EDGE, 2, tuple((list(one), list(two)) for one, two in rows), False)
        self.check(EDGE, EDGE, 2, tuple((tuple(map(bool, one)), tuple(map(bool, two))) for one, two in rows), False)
        shapes = ((), ((),), ((), (), ()), [(), ()], ((), []), ([], ()), (0, 0), ("", ""), "ab", ((0,), ()), ((), (0,)))
        for pair in shapes:
            self.check(EDGE, EDGE, 2, (pair,), False)
            self.check(EDGE, EDGE, 2, (*rows, pair), False)
            self.check(EDGE, EDGE, 2, (EMPTY, pair, *rows[1:]), False)

    def test_elements_that_are_none(self):
        for bad in (2, -1, True, False, 0.0, "0", None, (0,), 10 ** 40):
            for pair in (((bad,), (0,)), ((0,), (bad,)), ((bad,), (bad,))):
                self.check(EDGE, EDGE, 1, (EMPTY, pair), False)

    def test_values_that_are_like_others_or_cannot_be_compared(self):
        for odd in (Sly(), Touchy()):
            for rows in (odd, (odd,), (EMPTY, odd), (EMPTY, (odd, odd)), (EMPTY, ((odd,), (0,))), (((), odd),)):
                self.assertIs(is_system(EDGE, EDGE, 1, rows), False)


class FewestPebbles(unittest.TestCase):
    def test_table(self):
        for structure, other, told in (
            (ARROW, EDGE, 2), (EDGE, EDGE, None), (TAIL, HEAD, 2), (BARE[0], BARE[1], 2), (BARE[1], BARE[2], 3),
            (BARE[2], BARE[3], 4), (BARE[3], BARE[4], 5), (BARE[4], BARE[4], None), (ring(4), ring(5), 3),
            (SIX, TWO_THREES, 3), (line(4), line(5), 2), (ring(5), ("structure", 5, (("E", 2, ()),)), 2),
            (ring(5), plain_maps.renamed(ring(5), (2, 4, 1, 0, 3)), None),
            (("structure", 1, (("P", 1, ()),)), ("structure", 1, (("P", 1, ((0,),)),)), 1),
            (("structure", 5, (("P", 1, ((0,), (1,)),),)), ("structure", 5, (("P", 1, ((0,),)),)), 2),
            (("structure", 5, (("P", 1, ((0,), (1,)),),)), ("structure", 5, (("P", 1, ((2,), (3,), (4,)),),)), 3),
        ):
            with self.subTest(structure=structure, other=other):
                self.assertEqual(fewest_pebbles(structure, other), told)
                self.assertEqual(fewest_pebbles(other, structure), told)

    def test_the_least_without_a_system(self):
        for structure, other in [*list(small_pairs())[::4], *three_pairs()[::5]]:
            told = fewest_pebbles(structure, other)
            if told is None:
                self.assertTrue(plain_maps.isomorphisms(structure, other))
                for pebbles in (1, 2, 3, 4):
                    self.assertIsNotNone(greatest_system(structure, other, pebbles))
            else:
                self.assertFalse(plain_maps.isomorphisms(structure, other))
                self.assertIsNone(greatest_system(structure, other, told))
                for pebbles in range(1, told):
                    self.assertIsNotNone(greatest_system(structure, other, pebbles))

    def test_word_by_word(self):
        for structure, other in list(small_pairs())[::7]:
            told = fewest_pebbles(structure, other)
            if told is not None and told < 4:
                self.assertIsNone(plain_maps.greatest_system(structure, other, told))
                if told > 1:
                    self.assertIsNotNone(plain_maps.greatest_system(structure, other, told - 1))


class Unchanged(unittest.TestCase):
    def test_what_is_handed_in_stays(self):
        rows = [[EMPTY], (EMPTY,)]
        told = []
        for _ in range(2):
            told.append((part(ring(4), ring(5), 3), fewest_pebbles(EDGE, ARROW)))
            told.append((greatest_system(EDGE, EDGE, 2), is_system(EDGE, EDGE, 2, rows)))
        self.assertEqual(told[:2], told[2:])
        self.assertEqual(rows, [[EMPTY], (EMPTY,)])
