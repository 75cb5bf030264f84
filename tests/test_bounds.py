"""What point c7 says of bounds: the greatest that is handed in is answered within a second or so."""

from itertools import product

from finitestructures.formulas import parts, rank
from finitestructures.games import alike, is_fair, least_rounds
from finitestructures.strategies import decide, is_strategy, judge
from finitestructures.truth import all_values, is_true
from finitestructures.types import classes, hintikka
from tests import plain, plain_games
from tests.samples import wide_structures
from tests.timing import Timed


def full(many, all_of_them):
    """A structure with three relations of two places that hold of all pairs, or of none."""
    rows = tuple(product(range(many), repeat=2)) if all_of_them else ()
    return ("structure", many, tuple((name, 2, rows) for name in "EFG"))


def widest(many):
    """Structures of so many elements, with three relations, in which players have the most choices or few of them."""
    return [full(many, True), full(many, False), wide_structures(many)[0], wide_structures(many)[1]]


def sixty_parts(one, two):
    """A formula of sixty parts and rank four: all names are free in the rows of the innermost or."""
    names = ("v0", "v1", "v2", "a", "b", "c", "d")
    pairs = list(product(names, repeat=2))
    atoms = [("rel", "EF"[k % 2], pairs[k * 5 % 49]) for k in range(52)]
    formula = ("or", tuple(("and", ()) if k == 51 else atom for k, atom in enumerate(atoms)))
    formula = ("not", ("and", (formula,)))
    for kind, name in ((one, "a"), (two, "b"), (one, "c"), (two, "d")):
        formula = (kind, name, formula)
    return ("not", formula)


class Bounds(Timed):
    def test_truth(self):
        names = ("v0", "v1", "v2")
        for one, two in (("some", "all"), ("all", "some"), ("some", "some")):
            formula = sixty_parts(one, two)
            self.assertEqual((parts(formula), rank(formula)), (60, 4))
            for structure in widest(5):
                told = self.quick(all_values, structure, formula, names)
                self.assertEqual(told, tuple(product(range(5), repeat=3)))
                self.assertIs(self.quick(is_true, structure, formula, {"v0": 0, "v1": 1, "v2": 4}), True)

    def test_games(self):
        for one, two in product(widest(5) + widest(4), repeat=2):
            if [row[:2] for row in one[2]] == [row[:2] for row in two[2]]:
                for points, others in (((), ()), ((0, 1, 0), (2, 1, 2)), ((0, 1, 2), (3, 1, 0))):
                    self.quick(is_fair, one, two, points, others)
                    self.quick(alike, one, two, points, others, 2)
                    paper = self.quick(decide, one, two, points, others, 2)
                    self.assertIs(self.quick(judge, one, two, points, others, 2, paper), True)

    def test_games_of_three_rounds(self):
        for one, two in product(widest(4) + widest(3), repeat=2):
            if [row[:2] for row in one[2]] == [row[:2] for row in two[2]]:
                for points, others in (((), ()), ((0,), (1,)), ((0, 1, 0), (2, 1, 2)), ((0, 1, 2), (2, 1, 0))):
                    least = self.quick(least_rounds, one, two, points, others)
                    told = self.quick(alike, one, two, points, others, 3)
                    self.assertIs(told, least is None or least > 3)
                    paper = self.quick(decide, one, two, points, others, 3)
                    self.assertEqual(paper[0], "strategy" if told else "formula")
                    self.assertIs(self.quick(judge, one, two, points, others, 3, paper), True)

    def test_types(self):
        for structure in widest(4):
            for rounds in range(4):
                told = self.quick(classes, structure, 3, rounds)
                self.assertEqual(sum(len(rows) for rows in told), 64)
                for points in ((), (3,), (0, 1, 2), (1, 1, 1)):
                    formula = self.quick(hintikka, structure, points, rounds)
                    self.assertLessEqual(rank(formula), rounds)
                    self.assertIs(self.quick(is_true, structure, formula, plain_games.named(points)), True)

    def test_papers_of_any_number_of_parts(self):
        one, two = full(4, True), full(4, False)
        formula = plain_games.textbook(one, (0, 0, 1), 3)
        self.assertGreater(parts(formula), 90000)
        self.assertIs(self.quick(judge, one, two, (0, 0, 1), (0, 0, 1), 3, ("formula", formula)), True)
        self.assertIs(self.quick(judge, one, one, (0, 0, 1), (2, 2, 3), 3, ("formula", formula)), False)
        self.assertIs(self.quick(judge, one, two, (0, 0, 1), (0, 0, 1), 2, ("formula", formula)), False)

    def test_strategies_of_any_number_of_pairs(self):
        one = full(4, True)
        # On these structures points are alike for all rounds if they are fair, so all fair pairs are a strategy.
        maps = [dict(zip(range(4), image)) for image in product(range(4), repeat=4) if len(set(image)) == 4]
        rows = []
        for many in (4, 3, 2, 1):
            found = [(row, tuple(image[x] for x in row)) for row in product(range(4), repeat=many) for image in maps]
            rows.append(tuple(sorted(set(found))))
        self.assertGreater(len(rows[0]), 4000)
        self.assertIs(self.quick(is_strategy, one, one, (2,), (3,), tuple(rows)), True)
        self.assertIs(self.quick(is_strategy, one, one, (2,), (3,), (rows[0], rows[1][1:], *rows[2:])), False)
        self.assertIs(self.quick(judge, one, one, (2,), (3,), 3, ("strategy", tuple(rows))), True)

    def test_formulas_a_hundred_within_one_another(self):
        formula = ("same", "v0", "v0")
        for k in range(96):
            formula = ("not", formula) if k % 2 else ("and", (formula, ("same", "v0", "v0")))
        for kind, name in (("some", "x"), ("all", "y"), ("some", "x")):
            formula = (kind, name, formula)
        one, two = full(4, True), full(4, False)
        self.assertIs(plain.holds(one, formula, {"v0": 3}), True)
        self.assertIs(self.quick(is_true, one, formula, {"v0": 3}), True)
        edge = ("and", (("rel", "E", ("v0", "v0")), formula))
        self.assertIs(self.quick(judge, one, two, (0,), (0,), 3, ("formula", edge)), True)
