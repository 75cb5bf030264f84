import unittest
from itertools import permutations, product

from finitestructures.isomorphisms import automorphisms, isomorphism, least_form, orbits
from tests import plain_maps
from tests.samples import (
    ARROW, BARE, EDGE, HEAD, TAIL, line, ring, small_pairs, structures_of, three_pairs, wide_structures,
)


def some_rooms():
    """Structures of one to five elements of several kinds, among them some with few and with many automorphisms."""
    found = [*BARE, ARROW, EDGE, TAIL, HEAD, *[line(many) for many in range(1, 6)], ring(3), ring(4), ring(5)]
    for kinds in ((("E", 2),), (("P", 1), ("Q", 1)), (("E", 2), ("R", 1))):
        found.extend(structures_of(kinds, 1) + structures_of(kinds, 2)[::3] + structures_of(kinds, 3)[::97])
    return found + wide_structures(3) + wide_structures(4) + wide_structures(5)


class Isomorphism(unittest.TestCase):
    def check(self, structure, other):
        told = isomorphism(structure, other)
        wanted = min(plain_maps.isomorphisms(structure, other), default=None)
        self.assertEqual(told, wanted, (structure, other))
        if told is not None:
            self.assertIs(type(told), tuple)
            self.assertTrue(all(type(x) is int for x in told))

    def test_table(self):
        for structure, other, told in (
            (ARROW, ARROW, (0, 1)),
            (ARROW, ("structure", 2, (("E", 2, ((1, 0),)),)), (1, 0)),
            (ARROW, EDGE, None),
            (EDGE, ARROW, None),
            (EDGE, EDGE, (0, 1)),
            (TAIL, HEAD, None),
            (BARE[2], BARE[2], (0, 1, 2)),
            (BARE[2], BARE[3], None),
            (BARE[3], BARE[2], None),
            (line(3), ("structure", 3, (("E", 2, ((0, 1), (2, 0), (2, 1))),)), (2, 0, 1)),
        ):
            with self.subTest(structure=structure, other=other):
                self.assertEqual(isomorphism(structure, other), told)

    def test_all_orders_over_small_pairs(self):
        for structure, other in [*small_pairs(), *three_pairs()]:
            self.check(structure, other)

    def test_all_orders_of_a_structure(self):
        for structure in some_rooms():
            orders = list(permutations(range(structure[1])))
            for order in orders[::1 + len(orders) // 6]:
                self.check(structure, plain_maps.renamed(structure, order))

    def test_fewer_and_more_rows(self):
        # Each row of the first is led to a row of the second one, but not the other way.
        self.check(("structure", 2, (("E", 2, ()),)), ARROW)
        self.check(ARROW, ("structure", 2, (("E", 2, ((0, 0), (0, 1)),),)))
        self.check(("structure", 2, (("E", 2, ((0, 1),)), ("R", 1, ()))), TAIL)
        self.check(("structure", 2, (("E", 2, ((0, 0), (0, 1))),)), ("structure", 2, (("E", 2, ((0, 0), (1, 0))),)))

    def test_unlike_numbers_of_elements(self):
        for structure, other in product(BARE, repeat=2):
            self.check(structure, other)


class Automorphisms(unittest.TestCase):
    def test_table(self):
        self.assertEqual(automorphisms(ARROW), ((0, 1),))
        self.assertEqual(automorphisms(EDGE), ((0, 1), (1, 0)))
        self.assertEqual(automorphisms(BARE[0]), ((0,),))
        self.assertEqual(automorphisms(BARE[3]), tuple(permutations(range(4))))
        self.assertEqual(len(automorphisms(BARE[4])), 120)
        self.assertEqual(len(automorphisms(ring(5))), 10)
        self.assertEqual(automorphisms(line(5)), ((0, 1, 2, 3, 4),))

    def test_all_orders(self):
        for structure in some_rooms() + structures_of((("E", 2),), 3)[::7]:
            told = automorphisms(structure)
            self.assertIs(type(told), tuple)
            self.assertEqual(told, tuple(sorted(plain_maps.isomorphisms(structure, structure))), structure)


class Orbits(unittest.TestCase):
    def check(self, structure, many):
        told = orbits(structure, many)
        images = plain_maps.isomorphisms(structure, structure)
        found = {
            tuple(sorted({plain_maps.led(row, order) for order in images}))
            for row in product(range(structure[1]), repeat=many)
        }
        self.assertEqual(told, tuple(sorted(found)), (structure, many))
        self.assertIs(type(told), tuple)
        self.assertTrue(all(type(orbit) is tuple for orbit in told))

    def test_table(self):
        self.assertEqual(orbits(ARROW, 1), (((0,),), ((1,),)))
        self.assertEqual(orbits(EDGE, 1), (((0,), (1,)),))
        self.assertEqual(orbits(EDGE, 2), (((0, 0), (1, 1)), ((0, 1), (1, 0))))
        self.assertEqual(len(orbits(BARE[4], 3)), 5)

    def test_no_place(self):
        for structure in some_rooms():
            self.assertEqual(orbits(structure, 0), (((),),))

    def test_all_tuples(self):
        for structure in some_rooms():
            for many in range(4 if structure[1] < 5 else 3):
                self.check(structure, many)
        for structure in (BARE[4], ring(5), line(5)):
            self.check(structure, 3)


class LeastForm(unittest.TestCase):
    def test_table(self):
        self.assertEqual(least_form(("structure", 2, (("E", 2, ((1, 0),)),))), ARROW)
        self.assertEqual(least_form(("structure", 2, (("E", 2, ((1, 1),)),))), ("structure", 2, (("E", 2, ((0, 0),)),)))
        self.assertEqual(least_form(EDGE), EDGE)
        self.assertEqual(least_form(BARE[4]), BARE[4])
        # The rows of the first relation count first.
        self.assertEqual(least_form(("structure", 2, (("P", 1, ((1,),)), ("Q", 1, ((0,),))))),
                         ("structure", 2, (("P", 1, ((0,),)), ("Q", 1, ((1,),)))))

    def test_all_orders(self):
        for structure in some_rooms():
            told = least_form(structure)
            self.assertEqual(told, min(plain_maps.shape(structure)), structure)
            self.assertIsNotNone(isomorphism(structure, told))

    def test_the_same_exactly_if_isomorphic(self):
        for structure, other in [*list(small_pairs())[::5], *three_pairs()[::3]]:
            same = least_form(structure) == least_form(other)
            self.assertIs(same, len(plain_maps.isomorphisms(structure, other)) > 0, (structure, other))
        for kinds, many, told in (((("E", 2),), 2, 10), ((("E", 2),), 3, 104), ((("P", 1), ("Q", 1)), 3, 20)):
            self.assertEqual(len({least_form(structure) for structure in structures_of(kinds, many)}), told)


class Unchanged(unittest.TestCase):
    def test_what_is_handed_in_stays(self):
        one, two = ring(4), plain_maps.renamed(ring(4), (2, 0, 1, 3))
        told = [(isomorphism(one, two), automorphisms(one), orbits(one, 2), least_form(two)) for _ in range(2)]
        self.assertEqual(told[0], told[1])
        self.assertEqual((one, two), (ring(4), plain_maps.renamed(ring(4), (2, 0, 1, 3))))
