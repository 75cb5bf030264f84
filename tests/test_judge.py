import unittest

from finitestructures.strategies import decide, is_strategy, judge
from tests import plain, plain_games
from tests.changes import JUNK, Sly, Touchy, changes
from tests.samples import ARROW, BARE, EDGE, HEAD, TAIL, line, point_pairs, small_pairs

R_V0 = ("rel", "R", ("v0",))
E_V0 = ("rel", "E", ("v0", "v0"))


def nested(formula, many):
    """The formula with so many formulas around it."""
    for k in range(many):
        formula = (("and", (formula,)), ("or", (formula,)), ("not", ("not", formula)))[k % 3]
    return formula


class Judge(unittest.TestCase):
    def check(self, case, paper, told=None):
        wanted = plain_games.judge(*case, paper)
        self.assertIs(judge(*case, paper), wanted, (case, paper))
        if told is not None:
            self.assertIs(wanted, told, (case, paper))

    def test_changes_at_one_place(self):
        cases = (
            (ARROW, EDGE, (), (), 1), (ARROW, EDGE, (), (), 2), (EDGE, ARROW, (), (), 2), (TAIL, HEAD, (0,), (0,), 0),
            (TAIL, HEAD, (), (), 2), (HEAD, TAIL, (0, 1), (1, 0), 1), (BARE[1], BARE[0], (), (), 3),
            (line(2), line(3), (), (), 2), (BARE[0], BARE[1], (0,), (0,), 1), (EDGE, EDGE, (0,), (1,), 1),
        )
        for case in cases:
            paper = decide(*case)
            self.check(case, paper, True)
            for changed in changes(paper):
                self.check(case, changed)

    def test_another_number_of_rounds(self):
        for rounds in range(4):
            for structure, other in ((line(3), line(3)), (BARE[2], BARE[3])):
                paper = decide(structure, other, (), (), rounds)
                self.assertEqual(paper[0], "strategy")
                for asked in range(4):
                    self.check((structure, other, (), (), asked), paper, asked == rounds)
        paper = decide(ARROW, EDGE, (), (), 2)
        for asked in range(4):
            self.check((ARROW, EDGE, (), (), asked), paper, asked >= 2)

    def test_the_other_way_round(self):
        for one, two in ((ARROW, EDGE), (TAIL, HEAD), (line(2), line(3)), (BARE[0], BARE[1])):
            paper = decide(one, two, (), (), 2)
            self.assertEqual(paper[0], "formula")
            self.check((one, two, (), (), 2), paper, True)
            self.check((two, one, (), (), 2), paper, False)
            self.check((two, one, (), (), 2), ("formula", ("not", paper[1])), True)
            self.check((one, one, (), (), 2), paper, False)

    def test_formulas_of_the_textbooks(self):
        for structure, other in small_pairs():
            for points, others in point_pairs(structure, other, 1)[::2]:
                for rounds in range(3):
                    told = not plain_games.alike(structure, other, points, others, rounds)
                    paper = ("formula", plain_games.textbook(structure, points, rounds))
                    self.check((structure, other, points, others, rounds), paper, told)

    def test_formulas_that_someone_else_made(self):
        pair = (TAIL, HEAD, (0,), (0,), 0)
        x_alone = ("some", "x", ("and", (("rel", "R", ("x",)), ("some", "y", ("rel", "E", ("x", "y"))))))
        for formula, rounds, told in (
            (R_V0, 0, True),
            (("and", (R_V0, R_V0, ("and", ()))), 0, True),
            (("or", (("or", ()), ("not", ("not", R_V0)))), 0, True),
            (nested(R_V0, 80), 0, True),
            (("not", R_V0), 0, False),
            (("and", ()), 0, False),
            (("or", ()), 0, False),
            (E_V0, 0, False),
            # a rank that is too great
            (x_alone, 2, True),
            (x_alone, 1, False),
            (("some", "z", R_V0), 1, True),
            (("some", "z", R_V0), 0, False),
            (("and", (R_V0, ("or", (("all", "x", ("and", ())), R_V0)))), 0, False),
            # free names
            (("rel", "R", ("v1",)), 0, False),
            (("rel", "R", ("x",)), 0, False),
            (("and", (R_V0, ("same", "v1", "v1"))), 3, False),
            (("or", (R_V0, ("and", (("rel", "R", ("v2",)), ("or", ()))))), 3, False),
            (("and", (("some", "v1", ("rel", "R", ("v1",))), R_V0)), 1, True),
            (("and", (("some", "v1", ("rel", "R", ("v1",))), ("rel", "R", ("v1",)))), 1, False),
            (("and", (("some", "v0", E_V0), R_V0)), 1, False),
            (("and", (("all", "v0", ("not", E_V0)), R_V0)), 1, True),
            # relations
            (("rel", "Q", ("v0",)), 0, False),
            (("or", (("rel", "Q", ("v0",)), R_V0)), 0, False),
            (("or", (R_V0, ("rel", "Q", ("v0",)))), 0, False),
            (("or", (R_V0, ("rel", "E", ("v0",)))), 0, False),
            (("or", (R_V0, ("rel", "R", ("v0", "v0")))), 0, False),
            (("or", (R_V0, ("rel", "R", ()))), 0, False),
            (("and", (R_V0, ("not", ("rel", "E", ("v0", "v0", "v0"))))), 0, False),
            # shapes that are none, where the truth would not need them
            (("or", (R_V0, ("same", "v0"))), 0, False),
            (("or", (R_V0, ("same", "v0", "v0", "v0"))), 0, False),
            (("or", (R_V0, ("same", ("v0",), "v0"))), 0, False),
            (("or", (R_V0, ("not", R_V0, R_V0))), 0, False),
            (("or", (R_V0, ("and", R_V0))), 0, False),
            (("or", (R_V0, ("and", [R_V0]))), 0, False),
            (("or", [R_V0]), 0, False),
            (["or", (R_V0,)], 0, False),
            (("or", (R_V0, ["rel", "R", ("v0",)])), 0, False),
            (("or", (R_V0, ("rel", "R", ["v0"]))), 0, False),
            (("or", (R_V0, ("rel", "R", "v"))), 0, False),
            (("or", (R_V0, ("xor", ()))), 0, False),
            (("or", (R_V0, ("and",))), 0, False),
            (("or", (R_V0, ())), 0, False),
            (("or", (R_V0, None)), 0, False),
            (("or", (R_V0, (("and",), ()))), 0, False),
            (("or", (R_V0, ("some", "v0"))), 3, False),
            (("or", (R_V0, ("some", "v10", R_V0))), 3, False),
            (("or", (R_V0, ("some", "V", R_V0))), 3, False),
            (("or", (R_V0, ("some", ("v1",), R_V0))), 3, False),
            (("or", (R_V0, ("all", "", R_V0))), 3, False),
            (("or", (R_V0, ("all", "x", R_V0, R_V0))), 3, False),
        ):
            with self.subTest(formula=formula, rounds=rounds):
                self.check((*pair[:4], rounds), ("formula", formula), told)

    def test_names_of_values(self):
        case = (TAIL, HEAD, (0,), (0,), 1)
        for name in ("a", "z", "a0", "z9", "m5", "v0", "v1"):
            rows = ("and", (R_V0, ("some", name, ("not", ("rel", "R", (name,))))))
            self.check(case, ("formula", rows), True)
        texts = ("", "vv", "v/", "v:", "`", "{", "V", "0", "00", "v00", "v 0", " v", "v ", "v\n", "_", "v_", "~", "a-")
        for name in (*texts, "v\u00b2", "v\u0661", "\u00e9", None, 0, True, ("v",), ["v"], b"v", Sly(), Touchy()):
            self.assertIs(judge(*case, ("formula", ("or", (R_V0, ("some", name, R_V0))))), False)
            self.assertIs(judge(*case, ("formula", ("or", (R_V0, ("same", name, name))))), False)
            self.assertIs(judge(*case, ("formula", ("or", (R_V0, ("rel", "E", ("v0", name)))))), False)

    def test_values_that_are_like_others_or_cannot_be_compared(self):
        strategy, formula = (TAIL, HEAD, (), (), 0), (TAIL, HEAD, (0,), (0,), 0)
        for odd in (Sly(), Touchy()):
            for case in (strategy, formula):
                told = decide(*case)[1]
                for paper in (odd, (odd, told), ("strategy", odd), ("formula", odd), (odd, odd), ("strategy", (odd,))):
                    self.assertIs(judge(*case, paper), False)
            pairs = (odd, (odd, odd), ((), odd), (odd, ()), ((odd,), (0,)), ((0,), (odd,)))
            for rows in (odd, (odd,), *[((pair,),) for pair in pairs], *[((((), ()), pair),) for pair in pairs]):
                self.assertIs(is_strategy(*strategy[:4], rows), False)
                self.assertIs(judge(*strategy, ("strategy", rows)), False)
            formulas = (
                odd, (odd,), (odd, (R_V0,)), ("or", odd), ("not", odd), (odd, R_V0), (odd, "v0", "v0"),
                ("same", odd, "v0"), ("rel", odd, ("v0",)), ("rel", "R", odd), ("rel", "R", (odd,)),
                ("some", odd, R_V0), ("all", "v0", odd),
            )
            for bad in formulas:
                self.assertIs(judge(*formula, ("formula", bad)), False)
                self.assertIs(judge(*formula, ("formula", ("or", (R_V0, bad)))), False)

    def test_one_formula_for_the_other_paper(self):
        for case in ((ARROW, EDGE, (), (), 1), (ARROW, EDGE, (), (), 2)):
            kind, told = decide(*case)
            other = {"strategy": "formula", "formula": "strategy"}[kind]
            for paper in ((other, told), (kind, told, ()), (kind,), (told, kind), [kind, told], told, (kind, (told,))):
                self.check(case, paper, False)
            for word in ("", "Formula", "Strategy", "sentence", "strategy ", None, 0, ("strategy",), b"formula", True):
                self.check(case, (word, told), False)

    def test_what_is_no_paper_at_all(self):
        for case in ((ARROW, EDGE, (), (), 1), (ARROW, EDGE, (), (), 2), (TAIL, HEAD, (0,), (0,), 0)):
            for junk in (*JUNK, range(3), "formula", 3.5, {1: 2}, {1, 2}, frozenset(), iter(()), len, NotImplemented):
                self.check(case, junk, False)
                self.check(case, ("strategy", junk), False)
                self.check(case, (junk, ()), False)
                self.check(case, (junk, junk), False)
                if junk != "v0":
                    self.check(case, ("formula", junk), False)

    def test_points_out_of_the_structure(self):
        always = ("formula", ("same", "v0", "v1"))
        for points, others in (((2, 2), (0, 1)), ((-1, -1), (0, 1)), ((0, 0), (0, 2)), ((0, 0), (-2, 1))):
            self.assertIs(judge(TAIL, HEAD, points, others, 0, always), False)
            rows = (((points, others),),)
            self.assertIs(judge(TAIL, HEAD, points, others, 0, ("strategy", rows)), False)
            self.assertIs(is_strategy(TAIL, HEAD, points, others, rows), False)

    def test_papers_far_within_one_another(self):
        case = (TAIL, HEAD, (0,), (0,), 1)
        for many in (100, 3000):
            self.assertIs(judge(*case, ("formula", nested(R_V0, many))), True)
            self.assertIs(judge(*case, ("formula", nested(("not", R_V0), many))), False)
            self.assertIs(judge(*case, ("formula", nested(("not", None), many))), False)
            deep = R_V0
            for _ in range(many):
                deep = ("some", "x", deep)
            self.assertIs(judge(*case, ("formula", deep)), False)

    def test_what_is_handed_in_stays(self):
        paper = [decide(ARROW, EDGE, (), (), 2), [1, [2]], {"a": [3]}]
        judge(ARROW, EDGE, (), (), 2, paper)
        is_strategy(ARROW, EDGE, (), (), paper)
        self.assertEqual(paper, [decide(ARROW, EDGE, (), (), 2), [1, [2]], {"a": [3]}])
        self.assertTrue(plain.holds(ARROW, paper[0][1], {}))
