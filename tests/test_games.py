import unittest
from itertools import product

from finitestructures.games import alike, is_fair, least_rounds
from tests import plain_games
from tests.samples import (
    ARROW, BARE, EDGE, line, point_pairs, ring, small_pairs, structures, structures_of, three_pairs, wide_structures,
)

LOOPS = structures_of((("E", 2),), 1)


class Fair(unittest.TestCase):
    def test_table(self):
        table = (
            (ARROW, EDGE, (), (), True),
            (ARROW, EDGE, (0,), (1,), True),
            (ARROW, EDGE, (0, 1), (0, 1), False),
            (ARROW, ARROW, (0, 1), (0, 1), True),
            (ARROW, ARROW, (0, 1), (1, 0), False),
            (ARROW, ARROW, (0, 1), (0, 0), False),
            (ARROW, ARROW, (0, 0), (0, 1), False),
            (ARROW, ARROW, (0, 0), (1, 1), True),
            (ARROW, ARROW, (0, 1, 0), (0, 1, 0), True),
            (ARROW, ARROW, (0, 1, 0), (0, 1, 1), False),
            (BARE[0], BARE[4], (0,), (4,), True),
            (BARE[0], BARE[4], (0, 0), (4, 3), False),
            (BARE[4], BARE[4], (0, 1, 2), (4, 0, 1), True),
            (BARE[4], BARE[4], (0, 1, 0), (4, 0, 1), False),
            (LOOPS[0], LOOPS[1], (0,), (0,), False),
            (LOOPS[0], LOOPS[1], (), (), True),
        )
        for structure, other, points, others, told in table:
            with self.subTest(structure=structure, other=other, points=points, others=others):
                self.assertIs(is_fair(structure, other, points, others), told)
                self.assertIs(alike(structure, other, points, others, 0), told)

    def test_word_by_word(self):
        for structure, other in small_pairs():
            for points, others in point_pairs(structure, other, 2):
                told = plain_games.fair(structure, other, points, others)
                self.assertIs(is_fair(structure, other, points, others), told)

    def test_three_points_and_three_relations(self):
        for structure, other in product(wide_structures(3), repeat=2):
            for points, others in point_pairs(structure, other, 3):
                told = plain_games.fair(structure, other, points, others)
                self.assertIs(is_fair(structure, other, points, others), told)


class Alike(unittest.TestCase):
    def test_table(self):
        table = (
            (ARROW, EDGE, (), (), 1, True),
            (ARROW, EDGE, (), (), 2, False),
            (ARROW, EDGE, (0,), (0,), 1, False),
            (BARE[1], BARE[2], (), (), 2, True),
            (BARE[1], BARE[2], (), (), 3, False),
            (BARE[2], BARE[3], (), (), 3, True),
            (BARE[2], BARE[3], (0,), (0,), 2, True),
            (BARE[2], BARE[3], (0,), (0,), 3, False),
            (BARE[3], BARE[4], (), (), 3, True),
            (line(3), line(4), (), (), 2, True),
            (line(3), line(4), (), (), 3, False),
            (line(2), line(3), (), (), 2, False),
            (ring(4), ring(3), (), (), 2, False),
            (ring(4), ring(4), (0, 1), (2, 3), 3, True),
            (ring(4), ring(4), (0, 1), (2, 0), 0, False),
            (line(4), line(4), (1,), (2,), 1, True),
            (line(4), line(4), (1,), (2,), 2, False),
            (line(4), line(4), (1, 2, 1), (1, 2, 1), 3, True),
        )
        for structure, other, points, others, rounds, told in table:
            with self.subTest(structure=structure, other=other, points=points, others=others, rounds=rounds):
                self.assertIs(alike(structure, other, points, others, rounds), told)
                self.assertIs(plain_games.alike(structure, other, points, others, rounds), told)

    def check(self, structure, other, points, others, most):
        for rounds in range(most + 1):
            told = alike(structure, other, points, others, rounds)
            wanted = plain_games.alike(structure, other, points, others, rounds)
            self.assertIs(told, wanted, (structure, other, points, others, rounds))

    def test_choice_by_choice(self):
        for structure, other in small_pairs():
            for points, others in point_pairs(structure, other, 1):
                self.check(structure, other, points, others, 2)
            for points, others in point_pairs(structure, other, 2)[::7]:
                self.check(structure, other, points, others, 2)

    def test_three_rounds_choice_by_choice(self):
        for structure, other in three_pairs():
            for points, others in point_pairs(structure, other, 3)[::47]:
                self.check(structure, other, points, others, 3)

    def test_four_elements_choice_by_choice(self):
        rooms = [line(4), ring(4), *structures_of((("E", 2),), 4)[1234::20011], line(3)]
        for structure, other in product(rooms, repeat=2):
            for points, others in point_pairs(structure, other, 1)[::6]:
                self.check(structure, other, points, others, 3)

    def test_five_elements_choice_by_choice(self):
        for structure, other in product(wide_structures(5) + wide_structures(4)[:1], repeat=2):
            for points, others in point_pairs(structure, other, 2)[::37]:
                self.check(structure, other, points, others, 2)


class LeastRounds(unittest.TestCase):
    def test_table(self):
        table = (
            (ARROW, EDGE, (), (), 2),
            (ARROW, EDGE, (0,), (0,), 1),
            (ARROW, EDGE, (0, 1), (0, 1), 0),
            (ARROW, ARROW, (), (), None),
            (ARROW, ARROW, (0,), (1,), 1),
            (EDGE, EDGE, (0,), (1,), None),
            (EDGE, EDGE, (0, 1, 0), (1, 0, 1), None),
            (LOOPS[0], LOOPS[1], (), (), 1),
            (LOOPS[0], LOOPS[1], (0,), (0,), 0),
            (LOOPS[1], LOOPS[1], (0,), (0,), None),
            (BARE[0], BARE[1], (), (), 2),
            (BARE[0], BARE[3], (), (), 2),
            (BARE[1], BARE[0], (), (), 2),
            (BARE[2], BARE[3], (), (), 4),
            (BARE[3], BARE[2], (), (), 4),
            (BARE[3], BARE[4], (), (), 5),
            (BARE[2], BARE[3], (0, 1), (0, 1), 2),
            (BARE[2], BARE[3], (0, 0), (3, 3), 3),
            (BARE[3], BARE[3], (0, 1), (3, 2), None),
            (line(4), line(4), (), (), None),
            (line(3), line(4), (), (), 3),
            (ring(3), ring(4), (), (), 2),
            (ring(4), ring(4), (0, 2), (3, 1), None),
            (ring(4), ring(4), (0, 2), (3, 2), 0),
        )
        for structure, other, points, others, told in table:
            with self.subTest(structure=structure, other=other, points=points, others=others):
                self.assertEqual(least_rounds(structure, other, points, others), told)

    def check(self, structure, other, points, others):
        """Compare with c6: alike for all numbers of rounds below, and for no greater one."""
        told = least_rounds(structure, other, points, others)
        case = (structure, other, points, others)
        if told is None:
            self.assertTrue(plain_games.isomorphic(structure, other, points, others), case)
            return
        self.assertIs(type(told), int)
        self.assertFalse(plain_games.isomorphic(structure, other, points, others), case)
        self.assertFalse(plain_games.alike(structure, other, points, others, told), case)
        if told > 0:
            self.assertTrue(plain_games.alike(structure, other, points, others, told - 1), case)

    def test_choice_by_choice(self):
        for structure, other in small_pairs():
            for points, others in point_pairs(structure, other, 2)[::3]:
                self.check(structure, other, points, others)

    def test_three_and_four_elements_choice_by_choice(self):
        rooms = [line(4), ring(4), ring(3), line(3), *structures_of((("E", 2),), 4)[1234::20011]]
        for structure, other in product(rooms, repeat=2):
            for points, others in point_pairs(structure, other, 2)[::17]:
                self.check(structure, other, points, others)

    def test_bare_structures(self):
        for structure, other in product(BARE[:4], repeat=2):
            for points, others in point_pairs(structure, other, 2)[::3]:
                self.check(structure, other, points, others)


class Unchanged(unittest.TestCase):
    def test_the_same_is_told_again(self):
        one, two = structures(2)[37], structures(2)[41]
        kept = (structures(2)[37], structures(2)[41])
        for points, others in point_pairs(one, two, 2):
            for _ in range(2):
                told = (is_fair(one, two, points, others), alike(one, two, points, others, 2))
                self.assertIs(told[0], plain_games.fair(one, two, points, others))
                self.assertIs(told[1], plain_games.alike(one, two, points, others, 2))
        self.assertEqual((one, two), kept)
