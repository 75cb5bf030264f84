import unittest

from finitestructures.isomorphisms import least_form
from finitestructures.models import count_models, follows, least_model, spectrum, structures
from finitestructures.texts import read
from tests import plain, plain_counts
from tests.samples import numbered

E_R = (("E", 2), ("R", 1))
EDGES = (("E", 2),)
ONES = (("P", 1), ("Q", 1), ("R", 1))
TWO = (("E", 2), ("F", 2))

# Kinds, each with the greatest number of elements that is tried.
TRIED = ((EDGES, 3), (E_R, 2), (ONES, 2), ((("R", 1),), 4), ((), 5), (TWO, 2))

SENTENCES = (
    "true",
    "false",
    "some x: some y: ~x=y",
    "all x: all y: x=y",
    "some x: some y: some z: ~x=y & ~y=z & ~x=z",
    "some x: all y: x=y",
    "some x: all y: ~x=y",
)

OF_EDGES = (
    "all x: some y: E(x,y)",
    "all x: ~E(x,x)",
    "all x: some y: E(x,y) & ~x=y",
    "some x: all y: E(x,y)",
    "some x: ~(some y: E(y,x))",
    "(all x: ~E(x,x)) & (all x: some y: E(x,y))",
    "(all x: ~E(x,x)) & (all x: some y: E(x,y)) & (all x: all y: ~E(x,y) | ~E(y,x))",
    "all x: all y: E(x,y) | E(y,x)",
    "some x: some y: E(x,y) & E(y,x) & ~x=y",
    "all x: all y: all z: (~E(x,y) | ~E(y,z)) | E(x,z)",
)


def sentences(kinds):
    """Sentences with relations of the kinds, some read and some made by number."""
    found = [read(text) for text in SENTENCES]
    if EDGES[0] in kinds:
        found.extend(read(text) for text in OF_EDGES)
    if E_R == kinds:
        found.extend(sentence for k in range(400) for sentence in [numbered(k * 37 + 11, 4)] if is_sentence(sentence))
    return found


def is_sentence(formula):
    return not plain.plain_free(formula)


def first_apart(kinds, sentence, other, most):
    """The first structure in which the sentence is true and the other one is not, by trying all."""
    for many in range(1, most + 1):
        for structure in plain_counts.models(kinds, sentence, many):
            if not plain.holds(structure, other, {}):
                return structure
    return None


class Structures(unittest.TestCase):
    def test_table(self):
        self.assertEqual(structures((), 3), (("structure", 3, ()),))
        self.assertEqual(structures((("R", 1),), 1), (
            ("structure", 1, (("R", 1, ()),)),
            ("structure", 1, (("R", 1, ((0,),)),)),
        ))
        self.assertEqual([row[2][0][2] for row in structures((("R", 1),), 2)], [(), ((0,),), ((0,), (1,)), ((1,),)])
        self.assertEqual([row[2][0][2] for row in structures(EDGES, 1)], [(), ((0, 0),)])
        self.assertEqual(
            [row[2][0][2] for row in structures(EDGES, 2)][:6],
            [(), ((0, 0),), ((0, 0), (0, 1)), ((0, 0), (0, 1), (1, 0)), ((0, 0), (0, 1), (1, 0), (1, 1)),
             ((0, 0), (0, 1), (1, 1))],
        )

    def test_all_of_them_in_order(self):
        for kinds, most in TRIED:
            for many in range(1, most + 1):
                told = structures(kinds, many)
                self.assertIs(type(told), tuple)
                self.assertEqual(list(told), plain_counts.all_structures(kinds, many))
                self.assertEqual(list(told), sorted(set(told)))
                self.assertTrue(all(plain_counts.is_structure(structure) for structure in told))

    def test_how_many(self):
        for kinds, many, told in (
            (EDGES, 3, 512), (E_R, 3, 4096), (ONES, 4, 4096), ((), 5, 1), ((("P", 1), ("Q", 1)), 5, 1024),
            (TWO, 2, 256), (EDGES, 1, 2), (E_R, 1, 4),
        ):
            self.assertEqual(len(structures(kinds, many)), told)


class OfSentences(unittest.TestCase):
    def check(self, kinds, sentence, most):
        case = (kinds, sentence, most)
        found = [plain_counts.models(kinds, sentence, many) for many in range(1, most + 1)]
        every = [structure for row in found for structure in row]
        self.assertEqual(least_model(kinds, sentence, most), every[0] if every else None, case)
        self.assertEqual(spectrum(kinds, sentence, most), tuple(k + 1 for k, row in enumerate(found) if row), case)
        for many, row in enumerate(found, 1):
            unlike = len({least_form(structure) for structure in row})
            self.assertEqual(count_models(kinds, sentence, many), (len(row), unlike), case)
        for one in (read("true"), read("false"), ("not", sentence)):
            for two, three in ((sentence, one), (one, sentence)):
                wanted = first_apart(kinds, two, three, most)
                self.assertEqual(follows(kinds, two, three, most), wanted, case)

    def test_all_structures(self):
        for kinds, most in TRIED:
            for sentence in sentences(kinds)[::1 if len(kinds) < 2 or most > 2 else 3]:
                self.check(kinds, sentence, min(most, 2) if kinds == EDGES else most)
        for text in OF_EDGES[2:8:2]:
            self.check(EDGES, read(text), 3)

    def test_table(self):
        for kinds, text, most, told in (
            (EDGES, "true", 3, ("structure", 1, (("E", 2, ()),))),
            (EDGES, "false", 3, None),
            (EDGES, "some x: E(x,x)", 3, ("structure", 1, (("E", 2, ((0, 0),)),))),
            (EDGES, OF_EDGES[5], 1, None),
            (EDGES, OF_EDGES[5], 3, ("structure", 2, (("E", 2, ((0, 1), (1, 0))),))),
            (EDGES, OF_EDGES[6], 2, None),
            (EDGES, OF_EDGES[6], 3, ("structure", 3, (("E", 2, ((0, 1), (1, 2), (2, 0))),))),
            ((), SENTENCES[4], 5, ("structure", 3, ())),
            ((), SENTENCES[4], 2, None),
            (EDGES, "true", 0, None),
        ):
            with self.subTest(kinds=kinds, text=text, most=most):
                self.assertEqual(least_model(kinds, read(text), most), told)

    def test_spectrum(self):
        for kinds, text, most, told in (
            (EDGES, "true", 3, (1, 2, 3)), (EDGES, "false", 3, ()), (EDGES, OF_EDGES[5], 3, (2, 3)),
            (EDGES, OF_EDGES[6], 3, (3,)), ((), SENTENCES[2], 5, (2, 3, 4, 5)), ((), SENTENCES[3], 5, (1,)),
            ((("R", 1),), "(some x: R(x)) & (some x: ~R(x))", 4, (2, 3, 4)), ((), "true", 0, ()),
        ):
            with self.subTest(kinds=kinds, text=text, most=most):
                self.assertEqual(spectrum(kinds, read(text), most), told)

    def test_count_models(self):
        for kinds, text, many, told in (
            (EDGES, "true", 1, (2, 2)), (EDGES, "true", 2, (16, 10)), (EDGES, "true", 3, (512, 104)),
            (EDGES, "false", 3, (0, 0)), ((), "true", 4, (1, 1)), ((("R", 1),), "true", 4, (16, 5)),
            (EDGES, "all x: all y: (~E(x,y) | E(y,x)) & ~E(x,x)", 3, (8, 4)), (ONES, "true", 4, (4096, 330)),
            (EDGES, "all x: some y: E(x,y) & (all z: ~E(x,z) | z=y)", 3, (27, 7)), (E_R, "true", 3, (4096, 752)),
        ):
            with self.subTest(kinds=kinds, text=text, many=many):
                self.assertEqual(count_models(kinds, read(text), many), told)

    def test_follows(self):
        for kinds, one, two, most, told in (
            (EDGES, "some x: all y: E(x,y)", "all y: some x: E(x,y)", 3, None),
            (EDGES, "all y: some x: E(x,y)", "some x: all y: E(x,y)", 1, None),
            (EDGES, "all y: some x: E(x,y)", "some x: all y: E(x,y)", 3,
             ("structure", 2, (("E", 2, ((0, 0), (1, 1))),))),
            (EDGES, "true", "false", 3, ("structure", 1, (("E", 2, ()),))),
            (EDGES, "false", "false", 3, None),
            (EDGES, "all x: ~E(x,x)", "all x: all y: ~E(x,y) | ~E(y,x)", 3,
             ("structure", 2, (("E", 2, ((0, 1), (1, 0))),))),
            ((), "some x: some y: ~x=y", SENTENCES[4], 5, ("structure", 2, ())),
            ((), SENTENCES[4], "some x: some y: ~x=y", 5, None),
        ):
            with self.subTest(one=one, two=two, most=most):
                self.assertEqual(follows(kinds, read(one), read(two), most), told)

    def test_what_is_handed_in_stays(self):
        sentence = read(OF_EDGES[5])
        told = []
        for _ in range(2):
            told.append((structures(EDGES, 2), least_model(EDGES, sentence, 3), spectrum(EDGES, sentence, 3)))
            told.append((count_models(EDGES, sentence, 3), follows(EDGES, sentence, read("true"), 3)))
        self.assertEqual(told[:2], told[2:])
        self.assertEqual(sentence, read(OF_EDGES[5]))
