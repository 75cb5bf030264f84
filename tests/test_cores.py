import unittest

from finitestructures.cores import core, is_core, part_of
from finitestructures.isomorphisms import isomorphism
from finitestructures.maps import least_map
from tests import plain_counts, plain_maps
from tests.samples import (
    ARROW, BARE, EDGE, HEAD, TAIL, line, ring, small_pairs, structures_of, subsets, wide_structures,
)

LOOP = ("structure", 1, (("E", 2, ((0, 0),)),))
KINDS = ((("E", 2),), (("P", 1), ("Q", 1)), (("E", 2), ("R", 1)), ())


def rooms():
    """Structures of one to five elements of several kinds."""
    found = [ARROW, EDGE, TAIL, HEAD, *BARE, *[line(many) for many in range(1, 6)], ring(3), ring(4), ring(5)]
    for kinds in KINDS:
        found.extend(structures_of(kinds, 1) + structures_of(kinds, 2))
        every = structures_of(kinds, 3)
        found.extend(every[::1 + len(every) // 60])
    found.extend(structures_of(KINDS[0], 4)[321::4001])
    return found + wide_structures(3) + wide_structures(4) + wide_structures(5)


class PartOf(unittest.TestCase):
    def test_table(self):
        for structure, chosen, told in (
            (ARROW, (0, 1), ARROW),
            (ARROW, (0,), ("structure", 1, (("E", 2, ()),))),
            (TAIL, (0,), ("structure", 1, (("E", 2, ()), ("R", 1, ((0,),))))),
            (TAIL, (1,), ("structure", 1, (("E", 2, ()), ("R", 1, ())))),
            (line(5), (1, 3, 4), line(3)),
            (ring(5), (0, 2), ("structure", 2, (("E", 2, ()),))),
            (ring(5), (0, 4), EDGE),
            (BARE[4], (2, 3), BARE[1]),
        ):
            with self.subTest(structure=structure, chosen=chosen):
                self.assertEqual(part_of(structure, chosen), told)

    def test_all_sets_of_elements(self):
        for structure in rooms()[::2] + wide_structures(5):
            for chosen in subsets(range(structure[1])):
                if chosen:
                    told = part_of(structure, chosen)
                    self.assertEqual(told, plain_counts.part_of(structure, chosen))
                    self.assertTrue(plain_counts.is_structure(told))


class Core(unittest.TestCase):
    def test_table(self):
        for structure, chosen in (
            (ARROW, (0, 1)),
            (EDGE, (0, 1)),
            (LOOP, (0,)),
            (BARE[4], (0,)),
            (ring(4), (0, 1)),
            (ring(3), (0, 1, 2)),
            (ring(5), (0, 1, 2, 3, 4)),
            (line(4), (0, 1, 2, 3)),
            (("structure", 3, (("E", 2, ((0, 1), (1, 2), (2, 2))),)), (2,)),
            (("structure", 4, (("E", 2, ((0, 1), (2, 3), (3, 2))),)), (2, 3)),
            (("structure", 4, (("E", 2, ((0, 3), (1, 2), (2, 1), (3, 0))),)), (0, 3)),
            (("structure", 2, (("P", 1, ((0,),)), ("Q", 1, ((1,),)))), (0, 1)),
            (("structure", 2, (("P", 1, ((0,), (1,))), ("Q", 1, ((1,),)))), (1,)),
        ):
            with self.subTest(structure=structure):
                self.assertEqual(core(structure), (plain_counts.part_of(structure, chosen), chosen))
                self.assertIs(is_core(structure), len(chosen) == structure[1])

    def test_all_maps(self):
        for structure in rooms():
            chosen = plain_counts.core_set(structure)
            told = core(structure)
            self.assertEqual(told, (plain_counts.part_of(structure, chosen), chosen), structure)
            self.assertIs(type(told), tuple)
            self.assertIs(is_core(structure), len(chosen) == structure[1], structure)

    def test_a_core_is_its_own_core(self):
        for structure in rooms():
            small = core(structure)[0]
            self.assertEqual(core(small), (small, tuple(range(small[1]))))
            self.assertIs(is_core(small), True)

    def test_maps_go_both_ways(self):
        for structure in rooms():
            small = core(structure)[0]
            self.assertIsNotNone(least_map(structure, small))
            self.assertIsNotNone(least_map(small, structure))

    def test_maps_both_ways_exactly_if_the_cores_are_isomorphic(self):
        for structure, other in list(small_pairs())[::2]:
            both = plain_maps.maps(structure, other) and plain_maps.maps(other, structure)
            self.assertIs(isomorphism(core(structure)[0], core(other)[0]) is not None, bool(both))

    def test_what_is_handed_in_stays(self):
        structure = ring(4)
        told = [(core(structure), is_core(structure), part_of(structure, (0, 2))) for _ in range(2)]
        self.assertEqual(told[0], told[1])
        self.assertEqual(structure, ring(4))
