import unittest
from itertools import product

from finitestructures.counting import (
    count_one_to_one, count_onto, judge_counts, part_by_counts, partitions, quotient, sums,
)
from finitestructures.isomorphisms import isomorphism
from finitestructures.maps import count_maps
from tests import plain_counts, plain_maps
from tests.changes import JUNK, Sly, Touchy, changes
from tests.samples import (
    ARROW, BARE, EDGE, HEAD, TAIL, line, ring, small_pairs, structures_of, three_pairs, wide_structures,
)

LOOP = ("structure", 1, (("E", 2, ((0, 0),)),))


def larger_pairs():
    """Pairs of structures of up to five elements."""
    rooms = [ring(3), ring(4), ring(5), line(3), line(5), EDGE, LOOP]
    found = list(product(rooms, repeat=2)) + list(product(BARE, repeat=2))
    return found + list(product(wide_structures(4) + wide_structures(3), repeat=2))


class Counts(unittest.TestCase):
    def check(self, structure, other):
        case = (structure, other)
        self.assertEqual(count_one_to_one(structure, other), len(plain_counts.one_to_one(structure, other)), case)
        self.assertEqual(count_onto(structure, other), len(plain_counts.onto(structure, other)), case)

    def test_table(self):
        for structure, other, one, two in (
            (ARROW, EDGE, 2, 2), (EDGE, ARROW, 0, 0), (BARE[1], BARE[4], 20, 0), (BARE[4], BARE[1], 0, 30),
            (BARE[4], BARE[4], 120, 120), (EDGE, LOOP, 0, 1), (LOOP, EDGE, 0, 0), (ring(4), EDGE, 0, 2),
            (line(2), line(4), 6, 0), (ring(3), ring(3), 6, 6), (TAIL, HEAD, 0, 0),
        ):
            with self.subTest(structure=structure, other=other):
                self.assertEqual((count_one_to_one(structure, other), count_onto(structure, other)), (one, two))

    def test_all_tuples(self):
        for structure, other in [*list(small_pairs())[::2], *three_pairs()[::3], *larger_pairs()]:
            self.check(structure, other)


class Partitions(unittest.TestCase):
    def test_table(self):
        self.assertEqual(partitions(1), ((0,),))
        self.assertEqual(partitions(2), ((0, 0), (0, 1)))
        self.assertEqual(partitions(3), ((0, 0, 0), (0, 0, 2), (0, 1, 0), (0, 1, 1), (0, 1, 2)))
        self.assertEqual([len(partitions(many)) for many in range(1, 7)], [1, 2, 5, 15, 52, 203])

    def test_all_tuples(self):
        for many in range(1, 6):
            told = partitions(many)
            self.assertEqual(told, plain_counts.partitions(many))
            self.assertEqual(list(told), sorted(set(told)))


class Quotient(unittest.TestCase):
    def test_table(self):
        for structure, partition, told in (
            (ARROW, (0, 1), ARROW),
            (ARROW, (0, 0), LOOP),
            (line(3), (0, 1, 0), ("structure", 2, (("E", 2, ((0, 0), (0, 1), (1, 0))),))),
            (line(3), (0, 0, 2), ("structure", 2, (("E", 2, ((0, 0), (0, 1))),))),
            (TAIL, (0, 0), ("structure", 1, (("E", 2, ((0, 0),)), ("R", 1, ((0,),))))),
            (BARE[4], (0, 1, 0, 1, 4), BARE[2]),
            (ring(4), (0, 1, 0, 1), EDGE),
        ):
            with self.subTest(structure=structure, partition=partition):
                self.assertEqual(quotient(structure, partition), told)

    def test_all_partitions(self):
        rooms = [*structures_of((("E", 2), ("R", 1)), 2)[::5], *structures_of((("E", 2),), 3)[::37], ring(5), line(4)]
        for structure in rooms + wide_structures(4) + BARE:
            for partition in plain_counts.partitions(structure[1]):
                told = quotient(structure, partition)
                self.assertEqual(told, plain_counts.quotient(structure, partition), (structure, partition))
                self.assertTrue(plain_counts.is_structure(told))


class Sums(unittest.TestCase):
    def check(self, structure, other):
        told = sums(structure, other)
        self.assertIs(type(told), tuple)
        ways = [plain_counts.quotient(structure, row) for row in plain_counts.partitions(structure[1])]
        first = tuple(len(plain_counts.one_to_one(way, other)) for way in ways)
        found = plain_maps.maps(structure, other)
        sets = sorted({tuple(sorted(set(row))) for row in product(range(other[1]), repeat=other[1])})
        second = tuple(len([images for images in found if set(images) == set(chosen)]) for chosen in sets)
        self.assertEqual(told, (first, second), (structure, other))
        self.assertEqual((sum(told[0]), sum(told[1])), (len(found), len(found)))

    def test_table(self):
        self.assertEqual(sums(ARROW, EDGE), ((0, 2), (0, 2, 0)))
        self.assertEqual(sums(EDGE, LOOP), ((1, 0), (1,)))
        self.assertEqual(sums(BARE[1], BARE[2]), ((3, 6), (1, 2, 0, 2, 1, 2, 1)))
        self.assertEqual(sums(BARE[2], BARE[1]), ((2, 2, 2, 2, 0), (1, 6, 1)))

    def test_all_tuples(self):
        for structure, other in [*list(small_pairs())[::3], *three_pairs()[::9], *larger_pairs()[::3]]:
            self.check(structure, other)

    def test_the_widest(self):
        for structure, other in product((BARE[4], ring(5), wide_structures(5)[0]), repeat=2):
            if [row[:2] for row in structure[2]] == [row[:2] for row in other[2]]:
                told = sums(structure, other)
                self.assertEqual((len(told[0]), len(told[1])), (52, 31))
                self.assertEqual(sum(told[0]), count_maps(structure, other))
                self.assertEqual(sum(told[1]), count_maps(structure, other))


class PartByCounts(unittest.TestCase):
    def check(self, structure, other):
        paper = part_by_counts(structure, other)
        self.assertEqual(paper, plain_counts.part_by_counts(structure, other))
        self.assertIs(plain_counts.judge_counts(structure, other, paper), True, (structure, other, paper))
        self.assertIs(judge_counts(structure, other, paper), True, (structure, other, paper))
        return paper

    def test_table(self):
        dot = ("structure", 1, (("E", 2, ()),))
        for structure, other, told in (
            (ARROW, ARROW, ("isomorphism", (0, 1))),
            (ARROW, ("structure", 2, (("E", 2, ((1, 0),)),)), ("isomorphism", (1, 0))),
            (ARROW, line(3), ("counts", dot, 2, 3)),
            (ARROW, EDGE, ("counts", ("structure", 2, (("E", 2, ((0, 1),)),)), 1, 2)),
            (BARE[0], BARE[2], ("counts", BARE[0], 1, 3)),
            (BARE[2], BARE[2], ("isomorphism", (0, 1, 2))),
            (ARROW, ("structure", 2, (("E", 2, ((1, 1),)),)), ("counts", LOOP, 0, 1)),
        ):
            with self.subTest(structure=structure, other=other):
                self.assertEqual(part_by_counts(structure, other), told)

    def test_all_structures_for_small_pairs(self):
        for kinds in ((("E", 2),), (("R", 1),), ()):
            rooms = [room for many in (1, 2) for room in structures_of(kinds, many)]
            for structure, other in product(rooms, repeat=2):
                self.check(structure, other)
        rooms = structures_of((("E", 2), ("R", 1)), 2)[::3]
        for structure, other in product(rooms, repeat=2):
            self.check(structure, other)

    def test_pairs_of_three_elements(self):
        for structure, other in three_pairs()[::4]:
            self.check(structure, other)
        rooms = structures_of((("E", 2), ("R", 1)), 3)[7::701]
        for structure, other in product(rooms, repeat=2):
            self.check(structure, other)

    def test_pairs_that_only_three_elements_part(self):
        found = 0
        for rows, others in (
            (((0, 0), (0, 1), (1, 1), (1, 2), (2, 2)), ((0, 0), (0, 1), (1, 1), (2, 1), (2, 2))),
            (((0, 0), (0, 1), (1, 0), (1, 2)), ((0, 0), (0, 1), (1, 0), (2, 1))),
        ):
            paper = self.check(("structure", 3, (("E", 2, rows),)), ("structure", 3, (("E", 2, others),)))
            found += paper[1][1] == 3
        self.assertEqual(found, 2)

    def test_isomorphic_exactly_if_all_counts_are_alike(self):
        for structure, other in three_pairs()[::2]:
            told = part_by_counts(structure, other)
            self.assertIs(told[0] == "isomorphism", bool(plain_maps.isomorphisms(structure, other)))


class JudgeCounts(unittest.TestCase):
    def check(self, structure, other, paper, told=None):
        wanted = plain_counts.judge_counts(structure, other, paper)
        self.assertIs(judge_counts(structure, other, paper), wanted, (structure, other, paper))
        if told is not None:
            self.assertIs(wanted, told, (structure, other, paper))

    def test_changes_at_one_place(self):
        for structure, other in (
            (ARROW, EDGE), (EDGE, EDGE), (TAIL, HEAD), (TAIL, TAIL), (line(3), ring(3)), (BARE[1], BARE[2]),
            (BARE[2], BARE[2]), (ring(3), ring(3)), (LOOP, ("structure", 1, (("E", 2, ()),))),
        ):
            paper = part_by_counts(structure, other)
            self.check(structure, other, paper, True)
            for changed in changes(paper):
                self.check(structure, other, changed)

    def test_other_structures_with_their_numbers(self):
        for structure, other in ((ARROW, EDGE), (TAIL, HEAD), (line(3), ring(3)), (EDGE, EDGE)):
            kinds = tuple(row[:2] for row in structure[2])
            for many in (1, 2):
                for third in structures_of(kinds, many):
                    one, two = len(plain_maps.maps(third, structure)), len(plain_maps.maps(third, other))
                    self.check(structure, other, ("counts", third, one, two), one != two)
                    self.check(structure, other, ("counts", third, two, one), False)
                    self.check(structure, other, ("counts", third, one + 1, two), False)
                    self.check(structure, other, ("counts", third, one, two + 1), False)
                    self.check(structure, other, ("counts", third, one, one), False)

    def test_greater_structures(self):
        # Whichever structure has unlike numbers of maps to both parts them, however many elements it has.
        for third in (ring(4), ring(5), line(4)):
            one, two = len(plain_maps.maps(third, EDGE)), len(plain_maps.maps(third, line(3)))
            self.check(EDGE, line(3), ("counts", third, one, two), one != two)
        self.check(EDGE, line(3), ("counts", ring(4), 2, 0), True)

    def test_isomorphisms_that_someone_else_found(self):
        moved = plain_maps.renamed(ring(4), (1, 0, 2, 3))
        for structure, other in ((EDGE, EDGE), (ring(4), ring(4)), (ring(4), moved)):
            for images in product(range(structure[1]), repeat=structure[1]):
                self.check(structure, other, ("isomorphism", images))
        self.check(ARROW, EDGE, ("isomorphism", (0, 1)), False)
        self.check(EDGE, ARROW, ("isomorphism", (0, 1)), False)
        self.check(BARE[1], BARE[2], ("isomorphism", (0, 1)), False)
        self.check(BARE[2], BARE[1], ("isomorphism", (0, 1, 1)), False)
        self.check(EDGE, EDGE, ("isomorphism", [1, 0]), False)
        self.check(EDGE, EDGE, ("isomorphism", (True, False)), False)
        self.check(EDGE, EDGE, ("isomorphism", (1.0, 0)), False)

    def test_structures_that_are_none(self):
        edge = (("E", 2, ((0, 1),)),)
        self.check(ARROW, EDGE, ("counts", ("structure", 2, edge), 1, 2), True)
        for third in (
            ("Structure", 2, edge), ("structure", 2), ("structure", 2, edge, ()), ["structure", 2, edge], (2, edge),
            ("structure", 2, list(edge)), ("structure", 2, edge[0]), ("structure", 2, (["E", 2, ((0, 1),)],)),
            ("structure", 2, ()), ("structure", 2, (*edge, *edge)), ("structure", 2, (*edge, ("F", 2, ()))),
            ("structure", 2, (("F", 2, ((0, 1),)),)), ("structure", 2, (("E", 1, ((0,),)),)),
            ("structure", 2, (("E", 1, ((0, 1),)),)), ("structure", 2, (("E", 2, ((0,),)),)),
            ("structure", 2, (("E", 2, ((0, 1), (0, 1))),)), ("structure", 2, (("E", 2, ((1, 0), (0, 1))),)),
            ("structure", 2, (("E", 2, [(0, 1)]),)), ("structure", 2, (("E", 2, ([0, 1],)),)),
            ("structure", 2, (("E", 2, ((0, 2),)),)), ("structure", 2, (("E", 2, ((0, -1),)),)),
            ("structure", 2, (("E", 2, ((False, True),)),)), ("structure", 2, (("E", 2, ((0, 1.0),)),)),
            ("structure", 2, (("E", True, ((0,),)),)), ("structure", 2, (("E", 2.0, ((0, 1),)),)),
            ("structure", True, (("E", 2, ((0, 0),)),)), ("structure", 0, (("E", 2, ()),)),
            ("structure", -1, (("E", 2, ()),)), ("structure", 2.0, edge), ("structure", "2", edge),
            ("structure", None, edge), (None, 2, edge), ("structure", 2, (("E", 2),)),
            ("structure", 2, (("E", 2, (), ()),)), ("structure", 2, (("E", 2, None),)),
            ("structure", 2, ((("E",), 2, ((0, 1),)),)), ("structure", 2, (("E", (2,), ((0, 1),)),)),
        ):
            with self.subTest(third=third):
                self.assertFalse(plain_counts.is_structure(third)
                                 and plain_counts.kinds_of(third) == plain_counts.kinds_of(ARROW))
                for one, two in ((1, 2), (0, 1), (1, 0), (2, 2), (0, 2), (4, 4), (2, 1)):
                    self.check(ARROW, EDGE, ("counts", third, one, two), False)
        for many in (10 ** 6, 10 ** 40):
            self.assertIs(judge_counts(ARROW, EDGE, ("counts", ("structure", many, edge), 1, 2)), False)

    def test_numbers_that_are_none(self):
        third = ("structure", 2, (("E", 2, ((0, 1),)),))
        for one, two in (
            (True, 2), (1.0, 2), (1, 2.0), ("1", 2), (1, "2"), (None, 2), (1, None), ((1,), 2), (1, (2,)), ([1], [2]),
        ):
            self.check(ARROW, EDGE, ("counts", third, one, two), False)
        loops = ("structure", 1, (("E", 2, ()),))
        self.check(LOOP, EDGE, ("counts", loops, 1, 2), True)
        self.check(LOOP, EDGE, ("counts", loops, True, 2), False)
        self.check(EDGE, LOOP, ("counts", loops, 2, True), False)

    def test_what_is_no_paper_at_all(self):
        for structure, other in ((ARROW, EDGE), (EDGE, EDGE)):
            kind, *told = part_by_counts(structure, other)
            for junk in (*JUNK, range(2), 3.5, {1, 2}, frozenset(), len, NotImplemented):
                for paper in (
                    junk, (junk,), (junk, junk), (junk, *told), (kind, junk), ("counts", junk, 1, 2), ("counts", junk),
                    ("counts", junk, junk, junk), ("counts", ARROW, junk, 2), ("counts", ARROW, 1, junk),
                    ("isomorphism", junk), ("isomorphism", (0, junk)), ("isomorphism", junk, junk),
                ):
                    self.check(structure, other, paper)
            told = tuple(told)
            papers = ([kind, *told], (kind, *told, ()), (kind, *told[:-1]), (kind, told), (*told, kind), told)
            for paper in papers:
                self.check(structure, other, paper, False)

    def test_values_that_are_like_others_or_cannot_be_compared(self):
        for odd in (Sly(), Touchy()):
            for paper in (
                odd, (odd,), (odd, odd), (odd, ARROW, 1, 2), ("counts", odd, 1, 2), ("counts", ARROW, odd, 2),
                ("counts", ARROW, 1, odd), ("isomorphism", odd), ("isomorphism", (0, odd)),
                ("counts", (odd, 2, ARROW[2]), 1, 2), ("counts", ("structure", odd, ARROW[2]), 1, 2),
                ("counts", ("structure", 2, odd), 1, 2), ("counts", ("structure", 2, (odd,)), 1, 2),
                ("counts", ("structure", 2, ((odd, 2, ((0, 1),)),)), 1, 2),
                ("counts", ("structure", 2, (("E", odd, ((0, 1),)),)), 1, 2),
                ("counts", ("structure", 2, (("E", 2, odd),)), 1, 2),
                ("counts", ("structure", 2, (("E", 2, (odd,)),)), 1, 2),
                ("counts", ("structure", 2, (("E", 2, ((0, odd),)),)), 1, 2),
            ):
                self.assertIs(judge_counts(ARROW, EDGE, paper), False)

    def test_what_is_handed_in_stays(self):
        paper = ["counts", [ARROW], {1: [2]}]
        told = [(judge_counts(ARROW, EDGE, paper), sums(EDGE, EDGE), part_by_counts(ARROW, EDGE)) for _ in range(2)]
        self.assertEqual(told[0], told[1])
        self.assertEqual(paper, ["counts", [ARROW], {1: [2]}])
        self.assertIsNone(isomorphism(ARROW, EDGE))
