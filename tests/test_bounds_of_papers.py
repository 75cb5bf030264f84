"""What point c7 says of bounds, for isomorphisms, defining, pebbles and maps, and for what is built on them."""

from itertools import product

from finitestructures.cores import core, is_core
from finitestructures.counting import count_one_to_one, count_onto, judge_counts, part_by_counts, partitions, sums
from finitestructures.defining import define, defined_sets, is_definition
from finitestructures.formulas import parts, rank
from finitestructures.isomorphisms import automorphisms, isomorphism, least_form, orbits
from finitestructures.maps import count_maps, decide_map, judge_map, least_map, sentence_of
from finitestructures.models import count_models, follows, least_model, spectrum, structures
from finitestructures.pebbles import fewest_pebbles, greatest_system, is_system, part
from finitestructures.products import product as product_of
from finitestructures.products import sum_of
from finitestructures.texts import read
from tests.samples import BARE, structures_of
from tests.test_bounds import full
from tests.timing import Timed


def around(many):
    """Pairs of neighbours around a ring, one way."""
    return tuple(sorted((x, (x + 1) % many) for x in range(many)))


def alike_threes(many):
    """Structures of so many elements with three relations of two places, some of them with many automorphisms."""
    every = tuple(product(range(many), repeat=2))
    apart = tuple(row for row in every if row[0] != row[1])
    rising = tuple(row for row in every if row[0] < row[1])
    rows = ((every,) * 3, ((),) * 3, (apart,) * 3, (every[:-1],) * 3, (around(many),) * 3, (around(many), rising, ()))
    return [
        ("structure", many, tuple((name, 2, told) for name, told in zip("EFG", chosen)))
        for chosen in rows
    ]


def flat_paper(parts_wanted):
    """A formula of so many parts and rank three that is true of each v0."""
    atoms = [("rel", "EFG"[k % 3], ("v0", "abc"[k % 3])) for k in range(parts_wanted - 7)]
    rows = ("or", (*atoms, ("not", ("rel", "E", ("a", "a"))), ("same", "b", "b")))
    return ("some", "a", ("all", "b", ("some", "c", rows)))


def all_counts(structure):
    """How many maps there are from all structures of three elements of its kind."""
    return [count_maps(third, structure) for third in structures((("E", 2), ("R", 1)), 3)]


class Bounds(Timed):
    def test_isomorphisms(self):
        for structure in alike_threes(5) + [BARE[4]]:
            ways = self.quick(automorphisms, structure)
            self.assertEqual(120 % len(ways), 0)
            self.quick(least_form, structure)
            for many in range(4):
                self.assertEqual(sum(len(orbit) for orbit in self.quick(orbits, structure, many)), 5 ** many)
            self.quick(defined_sets, structure)
        for structure, other in product(alike_threes(5), repeat=2):
            told = self.quick(isomorphism, structure, other)
            self.assertEqual(told, (0, 1, 2, 3, 4) if structure == other else None)

    def test_defining(self):
        every = tuple(product(range(4), repeat=3))
        for structure in alike_threes(4) + [full(4, True)]:
            for rows in (every, (), every[::2], tuple(row for row in every if row[0] == row[1])):
                paper = self.quick(define, structure, 3, rows)
                self.assertIs(self.quick(is_definition, structure, 3, rows, paper), True)
                if paper[0] == "formula":
                    self.assertLessEqual(rank(paper[1]), 6)

    def test_pebbles(self):
        for structure, other in product(alike_threes(5), repeat=2):
            for pebbles in (1, 2, 3):
                rows = self.quick(greatest_system, structure, other, pebbles)
                paper = self.quick(part, structure, other, pebbles)
                self.assertEqual(paper[0], "sentence" if rows is None else "system")
                if rows is not None:
                    self.assertIs(self.quick(is_system, structure, other, pebbles, rows), True)
            least = self.quick(fewest_pebbles, structure, other)
            self.assertIs(least is None, structure == other)
        self.assertEqual(self.quick(fewest_pebbles, BARE[3], BARE[4]), 5)
        self.assertEqual(len(self.quick(greatest_system, BARE[4], BARE[4], 3)), 1 + 25 + 425 + 4825)

    def test_maps(self):
        for structure, other in product(alike_threes(5) + alike_threes(4), repeat=2):
            least = self.quick(least_map, structure, other)
            many = self.quick(count_maps, structure, other)
            self.assertIs(least is None, many == 0)
            paper = self.quick(decide_map, structure, other)
            self.assertIs(self.quick(judge_map, structure, other, paper), True)
            sentence = ("sentence", self.quick(sentence_of, structure))
            self.assertIs(self.quick(judge_map, structure, other, sentence), least is None)

    def test_papers_of_any_number_of_parts(self):
        structure = alike_threes(4)[5]
        formula = flat_paper(100000)
        self.assertEqual(parts(formula), 100000)
        every = tuple(product(range(4)))
        self.assertIs(self.quick(is_definition, structure, 1, every, ("formula", formula)), True)
        self.assertIs(self.quick(is_definition, structure, 1, every[1:], ("formula", formula)), False)
        rows = tuple(("rel", "EFG"[k % 3], ("uvw"[k % 3], "xyz"[k % 7 % 3])) for k in range(100000))
        plain = ("and", rows)
        for name in "uvwxyz":
            plain = ("some", name, plain)
        one, two = alike_threes(5)[0], alike_threes(5)[2]
        self.assertIs(self.quick(judge_map, one, two, ("sentence", plain)), False)
        loop = ("and", (*rows, ("rel", "E", ("u", "u"))))
        for name in "uvwxyz":
            loop = ("some", name, loop)
        self.assertIs(self.quick(judge_map, one, two, ("sentence", loop)), True)
        self.assertIs(self.quick(judge_map, two, one, ("sentence", loop)), False)

    def test_a_rank_of_six(self):
        structure = alike_threes(4)[4]
        formula = read("some a: all b: some c: all d: some e: all f: E(v0,a) & (E(b,c) | E(c,d) | ~E(e,f) | F(v1,v2))")
        told = self.quick(is_definition, structure, 3, tuple(product(range(4), repeat=3)), ("formula", formula))
        self.assertIs(told, True)

    def test_cores_products_and_sums(self):
        for structure, other in product(alike_threes(5), repeat=2):
            self.assertIs(self.quick(is_core, structure), self.quick(core, structure)[1] == (0, 1, 2, 3, 4))
            self.assertEqual(self.quick(product_of, structure, other)[1], 25)
            both = self.quick(sum_of, structure, other)
            self.assertEqual(both[1], 10)
            many = self.quick(count_maps, both, other)
            self.assertEqual(many, count_maps(structure, other) * count_maps(other, other))

    def test_models(self):
        atoms = [("rel", "E", ("abcd"[k % 4], "abcd"[k // 4 % 4])) if k % 3 else ("rel", "R", ("abcd"[k % 4],))
                 for k in range(52)]
        formula = ("not", ("and", (("or", tuple(atoms)),)))
        for kind, name in zip(("some", "all", "some", "all"), "abcd"):
            formula = (kind, name, formula)
        formula = ("not", formula)
        self.assertEqual((parts(formula), rank(formula)), (60, 4))
        kinds = (("E", 2), ("R", 1))
        self.assertEqual(len(self.quick(structures, kinds, 3)), 4096)
        for sentence in (formula, read("all x: some y: E(x,y) & ~R(y)"), read("true"), read("false")):
            self.quick(least_model, kinds, sentence, 3)
            self.quick(spectrum, kinds, sentence, 3)
            self.quick(count_models, kinds, sentence, 3)
            self.assertIsNone(self.quick(follows, kinds, sentence, sentence, 3))
            self.assertIsNone(self.quick(follows, kinds, read("false"), sentence, 3))
        ones = (("P", 1), ("Q", 1), ("R", 1))
        sentence = read("all w: some x: all y: some z: (P(w) | Q(x)) & (R(y) | ~P(z)) & ~w=z")
        self.quick(spectrum, ones, sentence, 4)
        self.quick(count_models, ones, sentence, 4)
        self.assertEqual(self.quick(count_models, ones[:2], read("true"), 5), (1024, 56))

    def test_counts(self):
        self.assertEqual(len(self.quick(partitions, 5)), 52)
        for structure, other in product(alike_threes(5), repeat=2):
            many = count_maps(structure, other)
            self.quick(count_one_to_one, structure, other)
            self.quick(count_onto, structure, other)
            one, two = self.quick(sums, structure, other)
            self.assertEqual((sum(one), sum(two)), (many, many))

    def test_part_by_counts(self):
        rooms = structures_of((("E", 2), ("R", 1)), 3)
        pairs = list(zip(rooms[5::97], rooms[6::97])) + list(zip(rooms[5::97], rooms[1003::97]))
        # Two that no structure of fewer than three elements parts.
        rows, others = ((0, 0), (0, 1), (1, 1), (1, 2), (2, 2)), ((0, 0), (0, 1), (1, 1), (2, 1), (2, 2))
        pairs.append([("structure", 3, (("E", 2, row), ("R", 1, ()))) for row in (rows, others)])
        for structure, other in pairs:
            paper = self.quick(part_by_counts, structure, other)
            self.assertIs(self.quick(judge_counts, structure, other, paper), True)
        # Even where the last of all structures told them apart it would be some seconds at most.
        self.assertEqual(len(self.quick(all_counts, rooms[4000])), 4096)
