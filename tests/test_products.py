import unittest
from itertools import product as tuples

from finitestructures.isomorphisms import isomorphism
from finitestructures.maps import count_maps
from finitestructures.products import product, sum_of
from tests import plain_counts, plain_maps
from tests.samples import ARROW, BARE, EDGE, HEAD, TAIL, line, ring, small_pairs, structures_of, wide_structures


def few_pairs():
    """Pairs of structures of one kind of up to five elements."""
    rooms = [ARROW, EDGE, line(3), ring(3), ring(4), ring(5), *structures_of((("E", 2),), 3)[55::131]]
    found = list(tuples(rooms, repeat=2)) + list(tuples(BARE, repeat=2)) + list(tuples((TAIL, HEAD), repeat=2))
    return found + list(tuples(wide_structures(3) + wide_structures(2), repeat=2))


class Product(unittest.TestCase):
    def test_table(self):
        for structure, other, told in (
            (ARROW, ARROW, ("structure", 4, (("E", 2, ((0, 3),)),))),
            (ARROW, EDGE, ("structure", 4, (("E", 2, ((0, 3), (1, 2))),))),
            (EDGE, ARROW, ("structure", 4, (("E", 2, ((0, 3), (2, 1))),))),
            (TAIL, HEAD, ("structure", 4, (("E", 2, ((0, 3),)), ("R", 1, ((1,),))))),
            (BARE[1], BARE[2], ("structure", 6, ())),
            (line(2), line(3), ("structure", 6, (("E", 2, ((0, 4), (0, 5), (1, 5))),))),
            (line(3), line(2), ("structure", 6, (("E", 2, ((0, 3), (0, 5), (2, 5))),))),
        ):
            with self.subTest(structure=structure, other=other):
                self.assertEqual(product(structure, other), told)
                self.assertEqual(plain_counts.product_of(structure, other), told)

    def test_word_by_word(self):
        for structure, other in [*small_pairs(), *few_pairs()]:
            told = product(structure, other)
            self.assertEqual(told, plain_counts.product_of(structure, other), (structure, other))
            self.assertTrue(plain_counts.is_structure(told))

    def test_maps_into_it(self):
        for structure, other in [*list(small_pairs())[::5], *few_pairs()]:
            both = product(structure, other)
            empty = ("structure", 1, tuple((name, places, ()) for name, places, _ in structure[2]))
            for third in (structure, other, empty):
                self.assertEqual(count_maps(third, both), count_maps(third, structure) * count_maps(third, other))
                if both[1] <= 6 and third[1] <= 3:
                    self.assertEqual(count_maps(third, both), len(plain_maps.maps(third, both)))

    def test_either_way_round(self):
        for structure, other in few_pairs()[::3]:
            if structure[1] * other[1] <= 6:
                self.assertIsNotNone(isomorphism(product(structure, other), product(other, structure)))


class Sum(unittest.TestCase):
    def test_table(self):
        for structure, other, told in (
            (ARROW, ARROW, ("structure", 4, (("E", 2, ((0, 1), (2, 3))),))),
            (ARROW, EDGE, ("structure", 4, (("E", 2, ((0, 1), (2, 3), (3, 2))),))),
            (EDGE, ARROW, ("structure", 4, (("E", 2, ((0, 1), (1, 0), (2, 3))),))),
            (TAIL, HEAD, ("structure", 4, (("E", 2, ((0, 1), (2, 3))), ("R", 1, ((0,), (3,)))))),
            (BARE[1], BARE[2], ("structure", 5, ())),
        ):
            with self.subTest(structure=structure, other=other):
                self.assertEqual(sum_of(structure, other), told)
                self.assertEqual(plain_counts.sum_of(structure, other), told)

    def test_word_by_word(self):
        for structure, other in [*small_pairs(), *few_pairs()]:
            told = sum_of(structure, other)
            self.assertEqual(told, plain_counts.sum_of(structure, other), (structure, other))
            self.assertTrue(plain_counts.is_structure(told))

    def test_maps_from_it(self):
        for structure, other in [*list(small_pairs())[::5], *few_pairs()]:
            both = sum_of(structure, other)
            for third in (structure, other):
                self.assertEqual(count_maps(both, third), count_maps(structure, third) * count_maps(other, third))
                if both[1] <= 6 and third[1] <= 3:
                    self.assertEqual(count_maps(both, third), len(plain_maps.maps(both, third)))

    def test_the_widest(self):
        one, two = wide_structures(5)[:2]
        both = sum_of(one, two)
        self.assertEqual(both[1], 10)
        self.assertEqual(count_maps(both, one), count_maps(one, one) * count_maps(two, one))
        pairs = product(one, two)
        self.assertEqual(pairs[1], 25)
        self.assertEqual(count_maps(line(2), product(line(5), ring(5))), 10 * 10)


class Unchanged(unittest.TestCase):
    def test_what_is_handed_in_stays(self):
        one, two = line(3), ring(3)
        told = [(product(one, two), sum_of(one, two)) for _ in range(2)]
        self.assertEqual(told[0], told[1])
        self.assertEqual((one, two), (line(3), ring(3)))
