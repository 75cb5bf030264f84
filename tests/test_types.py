import unittest
from itertools import product

from finitestructures.types import classes, hintikka
from tests import plain, plain_games
from tests.samples import (
    ARROW, BARE, EDGE, line, point_pairs, ring, small_pairs, structures_of, three_pairs, wide_structures,
)


def rooms():
    """Structures of one to four elements of several kinds."""
    found = [*BARE[:4], ARROW, EDGE, line(3), line(4), ring(3), ring(4)]
    for kinds in ((("E", 2),), (("P", 1), ("Q", 1)), (("E", 2), ("R", 1))):
        found.extend(structures_of(kinds, 1) + structures_of(kinds, 2)[::5])
        found.extend(structures_of(kinds, 3)[::len(structures_of(kinds, 3)) // 4])
    return found + wide_structures(4)


class Classes(unittest.TestCase):
    def test_table(self):
        table = (
            (ARROW, 0, 0, (((),),)),
            (ARROW, 0, 3, (((),),)),
            (ARROW, 1, 0, (((0,), (1,)),)),
            (ARROW, 1, 1, (((0,),), ((1,),))),
            (EDGE, 1, 3, (((0,), (1,)),)),
            (EDGE, 2, 0, (((0, 0), (1, 1)), ((0, 1), (1, 0)))),
            (ARROW, 2, 0, (((0, 0), (1, 1)), ((0, 1),), ((1, 0),))),
            (ARROW, 2, 1, (((0, 0),), ((0, 1),), ((1, 0),), ((1, 1),))),
            (line(4), 1, 0, (((0,), (1,), (2,), (3,)),)),
            (line(4), 1, 1, (((0,),), ((1,), (2,)), ((3,),))),
            (line(4), 1, 2, (((0,),), ((1,),), ((2,),), ((3,),))),
            (BARE[0], 3, 3, (((0, 0, 0),),)),
            (BARE[3], 1, 3, (((0,), (1,), (2,), (3,)),)),
        )
        for structure, many, rounds, told in table:
            with self.subTest(structure=structure, many=many, rounds=rounds):
                self.assertEqual(classes(structure, many, rounds), told)

    def check(self, structure, many, rounds):
        told = classes(structure, many, rounds)
        self.assertIs(type(told), tuple)
        self.assertEqual(list(told), sorted(told))
        for rows in told:
            self.assertIs(type(rows), tuple)
            self.assertEqual(list(rows), sorted(set(rows)))
        listed = [row for rows in told for row in rows]
        self.assertEqual(sorted(listed), list(product(range(structure[1]), repeat=many)))
        where = {row: at for at, rows in enumerate(told) for row in rows}
        for one, two in list(product(listed, repeat=2))[::7 if len(listed) > 8 else 1]:
            wanted = plain_games.alike(structure, structure, one, two, rounds)
            self.assertIs(where[one] == where[two], wanted, (structure, one, two, rounds))

    def test_choice_by_choice(self):
        for structure in rooms():
            for many, rounds in product(range(3), range(3)):
                if structure[1] ** (many + rounds) <= 81:
                    self.check(structure, many, rounds)

    def test_three_points_and_three_rounds(self):
        for structure in (ARROW, EDGE, BARE[1], BARE[0]):
            for many in range(4):
                self.check(structure, many, 3)
        for structure in (line(3), ring(3)):
            self.check(structure, 1, 3)
            self.check(structure, 3, 1)

    def test_four_elements(self):
        for structure in (line(4), ring(4), *wide_structures(4)):
            self.check(structure, 1, 3)
            self.check(structure, 2, 1)


class Hintikka(unittest.TestCase):
    def told(self, structure, points, rounds):
        """The formula, which is one of this rank at most with no other free names."""
        formula = hintikka(structure, points, rounds)
        self.assertTrue(plain_games.is_formula(structure, formula))
        self.assertLessEqual(plain.plain_rank(formula), rounds)
        self.assertLessEqual(plain.plain_free(formula), set(plain_games.named(points)))
        return formula

    def check(self, structure, points, rounds, others):
        """Compare the formula's truth in other structures, with all points or some, with c6."""
        formula = self.told(structure, points, rounds)
        for other, row in others:
            wanted = plain_games.alike(structure, other, points, row, rounds)
            self.assertIs(
                plain.holds(other, formula, plain_games.named(row)), wanted, (structure, points, rounds, other, row)
            )

    def test_over_all_pairs_of_small_structures(self):
        for structure, other in small_pairs():
            for points, others in point_pairs(structure, other, 2)[::3]:
                for rounds in range(3):
                    self.check(structure, points, rounds, [(other, others)])

    def test_of_its_own_points(self):
        for structure in rooms():
            for points in list(product(range(structure[1]), repeat=2))[::3]:
                for rounds in range(3):
                    self.check(structure, points, rounds, [(structure, points)])

    def test_three_rounds(self):
        for structure, other in three_pairs()[::2]:
            for points, others in point_pairs(structure, other, 3)[::97]:
                self.check(structure, points, 3, [(other, others)])

    def test_structures_of_whatever_number_of_elements(self):
        for structure in BARE[:4]:
            for rounds in range(4):
                self.check(structure, (), rounds, [(other, ()) for other in BARE])
                self.check(structure, (0,), rounds, [(other, (other[1] - 1,)) for other in BARE])
                self.check(structure, (0, 0), rounds, [(other, (0, other[1] - 1)) for other in BARE[:4]])
        lines = [line(many) for many in range(1, 6)]
        for structure in lines[:4]:
            for rounds in range(3):
                self.check(structure, (), rounds, [(other, ()) for other in lines])
                self.check(structure, (0,), rounds, [(other, (x,)) for other in lines for x in range(other[1])])

    def test_four_elements(self):
        some = [line(4), ring(4), line(3), *structures_of((("E", 2),), 4)[1234::30011]]
        for structure, other in product(some, repeat=2):
            for points, others in point_pairs(structure, other, 2)[::53]:
                self.check(structure, points, 3, [(other, others)])

    def test_several_relations(self):
        for structure, other in product(wide_structures(3), repeat=2):
            for points, others in point_pairs(structure, other, 2)[::11]:
                for rounds in range(3):
                    self.check(structure, points, rounds, [(other, others)])

    def test_no_round(self):
        self.check(ARROW, (), 0, [(ARROW, ()), (EDGE, ())])
        for points in product(range(2), repeat=2):
            self.check(ARROW, points, 0, [(EDGE, row) for row in product(range(2), repeat=2)])


class Unchanged(unittest.TestCase):
    def test_the_same_is_told_again(self):
        structure, points = line(4), (0, 2)
        first = (classes(structure, 2, 2), hintikka(structure, points, 2))
        self.assertEqual((classes(structure, 2, 2), hintikka(structure, points, 2)), first)
        self.assertEqual((structure, points), (line(4), (0, 2)))
