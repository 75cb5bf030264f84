import unittest
from itertools import product

from finitestructures.strategies import decide, is_strategy, judge
from tests import plain_games
from tests.changes import JUNK, changes
from tests.samples import (
    ARROW, BARE, EDGE, HEAD, TAIL, line, point_pairs, ring, small_pairs, structures_of, three_pairs,
)


class Decide(unittest.TestCase):
    def check(self, structure, other, points, others, rounds):
        case = (structure, other, points, others, rounds)
        paper = decide(structure, other, points, others, rounds)
        wanted = "strategy" if plain_games.alike(structure, other, points, others, rounds) else "formula"
        self.assertEqual(paper[0], wanted, case)
        self.assertIs(plain_games.judge(structure, other, points, others, rounds, paper), True, case)
        self.assertIs(judge(structure, other, points, others, rounds, paper), True, case)
        if wanted == "strategy":
            self.assertIs(is_strategy(structure, other, points, others, paper[1]), True, case)
        return paper

    def test_the_example(self):
        self.assertEqual(self.check(ARROW, EDGE, (), (), 1)[0], "strategy")
        self.assertEqual(self.check(ARROW, EDGE, (), (), 2)[0], "formula")
        self.assertEqual(self.check(EDGE, ARROW, (), (), 2)[0], "formula")

    def test_no_round(self):
        self.assertEqual(decide(TAIL, HEAD, (), (), 0), ("strategy", ((((), ()),),)))
        self.assertEqual(decide(TAIL, HEAD, (0,), (1,), 0), ("strategy", ((((0,), (1,)),),)))
        self.assertEqual(decide(TAIL, HEAD, (0,), (0,), 0), ("formula", ("rel", "R", ("v0",))))
        self.assertEqual(decide(HEAD, TAIL, (0,), (0,), 0), ("formula", ("not", ("rel", "R", ("v0",)))))

    def test_pairs_of_small_structures(self):
        for structure, other in small_pairs():
            for points, others in point_pairs(structure, other, 2)[::3]:
                for rounds in range(3):
                    self.check(structure, other, points, others, rounds)

    def test_three_rounds(self):
        for structure, other in three_pairs():
            for points, others in point_pairs(structure, other, 3)[::61]:
                self.check(structure, other, points, others, 3)

    def test_four_elements(self):
        rooms = [line(4), ring(4), line(3), *structures_of((("E", 2),), 4)[1234::20011]]
        for structure, other in product(rooms, repeat=2):
            for points, others in point_pairs(structure, other, 2)[::41]:
                self.check(structure, other, points, others, 3)

    def test_unlike_numbers_of_elements(self):
        for structure, other in product(BARE, repeat=2):
            for points, others in point_pairs(structure, other, 2)[::19]:
                for rounds in range(3):
                    self.check(structure, other, points, others, rounds)

    def test_points_that_are_alike(self):
        for points, others in product(((0, 0, 0), (0, 1, 0), (1, 1, 0)), repeat=2):
            for rounds in range(4):
                self.check(TAIL, HEAD, points, others, rounds)
                self.check(TAIL, TAIL, points, others, rounds)

    def test_what_is_handed_in_stays(self):
        one, two, points = line(3), ring(3), (0, 1)
        first = decide(one, two, points, points, 2)
        self.assertEqual(decide(one, two, points, points, 2), first)
        self.assertEqual((one, two, points), (line(3), ring(3), (0, 1)))


class IsStrategy(unittest.TestCase):
    def check(self, structure, other, points, others, rows, told=None):
        wanted = plain_games.is_strategy(structure, other, points, others, rows)
        self.assertIs(is_strategy(structure, other, points, others, rows), wanted, (structure, other, points, rows))
        if told is not None:
            self.assertIs(wanted, told)

    def test_all_pairs_that_are_alike_are_one(self):
        for structure, other in small_pairs():
            for points, others in point_pairs(structure, other, 1):
                if plain_games.alike(structure, other, points, others, 1):
                    rows = plain_games.full_strategy(structure, other, points, others, 1)
                    self.check(structure, other, points, others, rows, True)

    def test_more_than_is_needed(self):
        rows = plain_games.full_strategy(line(3), line(3), (), (), 2)
        self.check(line(3), line(3), (), (), rows, True)
        # Pairs of any number of points may stand in a row.
        more = tuple(sorted((*rows[0], ((), ()), ((0,), (2,)), ((1, 1, 1), (2, 2, 2)))))
        self.check(line(3), line(3), (), (), (more, *rows[1:]), True)
        self.check(line(3), line(3), (), (), (rows[0], tuple(sorted((((0, 1), (0, 1)), *rows[1]))), rows[2]), False)

    def test_another_pair_in_the_last_row(self):
        rows = decide(line(3), line(3), (0,), (0,), 2)[1]
        self.check(line(3), line(3), (0,), (0,), rows, True)
        for points, others in point_pairs(line(3), line(3), 2):
            self.check(line(3), line(3), points, others, rows, (points, others) == ((0,), (0,)))

    def test_fewer_and_more_rows(self):
        rows = decide(line(3), line(3), (), (), 3)[1]
        self.check(line(3), line(3), (), (), rows, True)
        self.check(line(3), line(3), (), (), (), False)
        for at in range(4):
            # Without the row for no round left it is one for a round less.
            self.check(line(3), line(3), (), (), rows[:at] + rows[at + 1:], at == 0)
            self.check(line(3), line(3), (), (), rows[:at] + (rows[at],) + rows[at:], False)
        # No row asks for one below the first, and empty ones ask for nothing; but the pair stands in none of them.
        self.check(line(3), line(3), (), (), rows[3:], True)
        self.check(line(3), line(3), (), (), ((), ()), False)
        self.check(line(3), line(3), (), (), ((), rows[3]), False)

    def test_a_strategy_for_one_more_round_than_they_are_alike(self):
        rows = plain_games.full_strategy(ARROW, EDGE, (), (), 1)
        self.check(ARROW, EDGE, (), (), rows, True)
        below = tuple((one, two) for one, two in product(product(range(2), repeat=2), repeat=2))
        self.check(ARROW, EDGE, (), (), (below, *rows), False)
        fair = tuple(pair for pair in below if plain_games.fair(ARROW, EDGE, *pair))
        self.check(ARROW, EDGE, (), (), (fair, *rows), False)

    def test_changes_at_one_place(self):
        cases = (
            (ARROW, EDGE, (), (), 1), (EDGE, ARROW, (), (), 1), (EDGE, EDGE, (0,), (1,), 2), (TAIL, HEAD, (), (), 1),
            (BARE[1], BARE[2], (0,), (2,), 1), (BARE[0], BARE[0], (0, 0), (0, 0), 2), (line(3), line(3), (1,), (1,), 1),
            (TAIL, HEAD, (), (), 0), (EDGE, EDGE, (0, 1, 0), (1, 0, 1), 0),
        )
        for structure, other, points, others, rounds in cases:
            rows = decide(structure, other, points, others, rounds)[1]
            self.check(structure, other, points, others, rows, True)
            for changed in changes(rows):
                self.check(structure, other, points, others, changed)

    def test_pairs_left_out_and_put_in(self):
        structure, other = line(3), line(3)
        rows = decide(structure, other, (), (), 2)[1]
        for at, row in enumerate(rows):
            for k in range(len(row)):
                self.check(structure, other, (), (), rows[:at] + (row[:k] + row[k + 1:],) + rows[at + 1:])
                self.check(structure, other, (), (), rows[:at] + (row[k:k + 1],) + rows[at + 1:], at == 2)
            for pair in point_pairs(structure, other, 3)[::5]:
                more = rows[:at] + (tuple(sorted({*row, pair})),) + rows[at + 1:]
                self.check(structure, other, (), (), more)
                self.check(structure, other, (), (), rows[:at] + ((*row, pair),) + rows[at + 1:])

    def test_what_is_no_strategy_at_all(self):
        for value in (*JUNK, range(2), {()}, "rows", 3.5, ((((), ()),), None), (None, (((), ()),)), ((((), ()),), ())):
            self.check(ARROW, EDGE, (), (), value, False)
        for pair in ((), ((),), ((), (), ()), [(), ()], ((), []), ([], ()), (0, 0), ("", ""), (None, None), "ab", None):
            self.check(ARROW, EDGE, (), (), ((pair,),), False)
            self.check(ARROW, EDGE, (), (), ((((), ()), pair),), False)
            self.check(ARROW, EDGE, (), (), ((pair, ((), ())),), False)

    def test_elements_that_are_none(self):
        for bad in (2, -1, True, False, 0.0, "0", None, (0,), 10 ** 40):
            for pair in (((bad,), (0,)), ((0,), (bad,)), ((bad,), (bad,))):
                self.check(EDGE, EDGE, (), (), (tuple([((), ()), pair]),), False)
                self.check(EDGE, EDGE, *pair, ((pair,),), False)

    def test_an_element_of_the_greater_structure_only(self):
        for pair, told in ((((1,), (2,)), True), (((2,), (1,)), False)):
            self.check(BARE[1], BARE[2], *pair, ((pair,),), told)
            self.check(BARE[2], BARE[1], *pair, ((pair,),), not told)

    def test_unlike_numbers_of_points(self):
        for pair in (((0,), ()), ((), (0,)), ((0, 0), (0,))):
            self.check(EDGE, EDGE, (), (), (tuple(sorted([((), ()), pair])),), False)
