"""What the document says of several parts of the program at once, and its example."""

import doctest
import os
import re
import subprocess
import sys
import unittest
from itertools import product
from pathlib import Path

from finitestructures.cores import core
from finitestructures.counting import judge_counts, part_by_counts, sums
from finitestructures.games import alike, least_rounds
from finitestructures.isomorphisms import automorphisms, isomorphism, least_form, orbits
from finitestructures.maps import count_maps, decide_map, judge_map, sentence_of
from finitestructures.models import count_models, least_model, structures
from finitestructures.pebbles import fewest_pebbles, greatest_system, part
from finitestructures.strategies import decide
from finitestructures.texts import read
from finitestructures.truth import is_true
from finitestructures.types import classes, hintikka
from tests import plain, plain_maps
from tests.samples import ARROW, BARE, EDGE, line, point_pairs, ring, small_pairs, structures_of, three_pairs

TOP = Path(__file__).resolve().parent.parent
DOCUMENT = TOP.parent / "shared" / "DOC.md"

EXAMPLE = """
>>> from finitestructures.games import alike, least_rounds
>>> from finitestructures.maps import decide_map
>>> from finitestructures.defining import define
>>> from finitestructures.texts import write
>>> a = ("structure", 2, (("E", 2, ((0, 1),)),))
>>> b = ("structure", 2, (("E", 2, ((0, 1), (1, 0))),))
>>> alike(a, b, (), (), 1), least_rounds(a, b, (), ())
(True, 2)
>>> decide_map(a, b), write(decide_map(b, a)[1])
(('map', (0, 1)), 'some e0: some e1: E(e0,e1) & E(e1,e0)')
>>> define(b, 1, ((0,),))
('moved', (1, 0), (0,))
"""

# Prints papers and lists of several kinds; what it prints may not depend on the order of sets.
SHOWN = """
from finitestructures.cores import core
from finitestructures.counting import part_by_counts, quotient, sums
from finitestructures.defining import define
from finitestructures.formulas import free, names_in
from finitestructures.isomorphisms import automorphisms, least_form, orbits
from finitestructures.maps import decide_map
from finitestructures.models import count_models, follows, least_model, structures
from finitestructures.pebbles import greatest_system, part
from finitestructures.products import product, sum_of
from finitestructures.strategies import decide
from finitestructures.texts import read
from finitestructures.types import classes, hintikka
from tests.samples import EDGE, line, ring

formula = part(line(4), line(3), 2)[1]
print(formula, free(formula), names_in(formula), part(ring(4), ring(4), 2), greatest_system(EDGE, EDGE, 2))
print(define(line(3), 2, ((0, 1), (1, 2))), define(ring(4), 1, ((0,), (3,))), decide_map(ring(5), ring(3)))
print(decide(line(3), line(4), (), (), 2), decide(line(4), line(4), (0,), (0,), 2), hintikka(line(3), (1,), 2))
print(classes(ring(4), 2, 1), orbits(ring(4), 2), automorphisms(ring(5)), least_form(ring(5)))
print(core(ring(4)), product(EDGE, line(3)), sum_of(EDGE, line(3)), structures((("E", 2),), 2), sums(EDGE, line(3)))
kinds, sentence = (("E", 2),), read("all x: some y: E(x,y) & ~x=y")
print(count_models(kinds, sentence, 3), least_model(kinds, sentence, 3), follows(kinds, sentence, read("false"), 3))
print(quotient(ring(4), (0, 1, 0, 1)), part_by_counts(line(3), ring(3)), part_by_counts(ring(3), ring(3)))
"""


class Example(unittest.TestCase):
    def run_example(self, text):
        example = doctest.DocTestParser().get_doctest(text, {}, "example", None, 0)
        self.assertGreater(len(example.examples), 8)
        self.assertEqual(doctest.DocTestRunner(verbose=False).run(example).failed, 0)

    def test_the_example(self):
        self.run_example(EXAMPLE)

    def test_as_the_document_has_it(self):
        if DOCUMENT.exists():
            found = re.search(r"## Example\n```\n(.*?)```", DOCUMENT.read_text(encoding="utf-8"), re.DOTALL)
            self.run_example(found.group(1))


class Together(unittest.TestCase):
    def test_alike_for_all_rounds_exactly_if_an_isomorphism_leads_there(self):
        for structure, other in [*list(small_pairs())[::3], *three_pairs()[::9]]:
            found = plain_maps.isomorphisms(structure, other)
            for points, others in point_pairs(structure, other, 2)[::2]:
                led = any(plain_maps.led(points, images) == others for images in found)
                self.assertIs(least_rounds(structure, other, points, others) is None, led, (structure, points, others))

    def test_classes_are_orbits_for_as_many_rounds_as_elements(self):
        rooms = [EDGE, ARROW, ring(3), line(3), *BARE[:3], *structures_of((("E", 2),), 3)[::23]]
        rooms += structures_of((("E", 2), ("R", 1)), 2)[::5]
        for structure in rooms:
            for many in range(4):
                self.assertEqual(classes(structure, many, structure[1]), orbits(structure, many), structure)
        for structure in (ring(4), line(4), BARE[3], *structures_of((("E", 2),), 4)[1234::20011]):
            for many in range(3):
                self.assertEqual(classes(structure, many, 4), orbits(structure, many), structure)

    def test_alike_with_all_numbers_of_pebbles_exactly_if_isomorphic(self):
        for structure, other in [*list(small_pairs())[::3], *three_pairs()[::9], *product(BARE, repeat=2)]:
            told = isomorphism(structure, other) is not None
            self.assertIs(fewest_pebbles(structure, other) is None, told)
            every = [greatest_system(structure, other, pebbles) is not None for pebbles in range(1, 6)]
            self.assertIs(all(every), told)
            self.assertEqual(every, sorted(every, reverse=True))

    def test_what_is_alike_for_rounds_is_alike_with_as_many_pebbles(self):
        # A formula of a rank of at most n can be told with n names if it has no free ones.
        for structure, other in [*list(small_pairs())[::5], *three_pairs()[::9]]:
            for many in (1, 2, 3):
                if greatest_system(structure, other, many) is not None:
                    self.assertIs(alike(structure, other, (), (), many), True)
                if part(structure, other, many)[0] == "sentence":
                    self.assertIsNotNone(least_rounds(structure, other, (), ()))

    def test_just_one_of_a_map_and_a_plain_sentence(self):
        for structure, other in [*small_pairs(), *three_pairs()]:
            there = len(plain_maps.maps(structure, other)) > 0
            self.assertEqual(decide_map(structure, other)[0], "map" if there else "sentence")
            paper = ("sentence", sentence_of(structure))
            self.assertIs(judge_map(structure, other, paper), not there)

    def test_just_one_of_a_strategy_and_a_formula(self):
        for structure, other in list(small_pairs())[::11]:
            for rounds in range(3):
                told = decide(structure, other, (), (), rounds)
                back = decide(other, structure, (), (), rounds)
                self.assertEqual(told[0], back[0])
                if told[0] == "formula":
                    self.assertIs(plain.holds(structure, told[1], {}), True)
                    self.assertIs(plain.holds(other, told[1], {}), False)

    def test_counts_of_maps_tell_isomorphisms(self):
        for structure, other in [*list(small_pairs())[::7], *three_pairs()[::5]]:
            if len(structure[2]) < 3 and [row[1] for row in structure[2]].count(1) < 2:
                paper = part_by_counts(structure, other)
                self.assertIs(paper[0] == "isomorphism", isomorphism(structure, other) is not None)
                self.assertIs(judge_counts(structure, other, paper), True)
                self.assertEqual([sum(row) for row in sums(structure, other)], [count_maps(structure, other)] * 2)

    def test_models_of_what_tells_a_structure(self):
        # With as many rounds as elements and one more, only structures that are isomorphic are alike.
        for structure in (ARROW, EDGE, *structures((("E", 2),), 2)[::3]):
            sentence = hintikka(structure, (), 3)
            self.assertEqual(least_model((("E", 2),), sentence, 3), least_form(structure))
            self.assertEqual(count_models((("E", 2),), sentence, 2)[1], 1)
            self.assertEqual(count_models((("E", 2),), sentence, 3), (0, 0))

    def test_maps_both_ways_keep_plain_sentences(self):
        texts = ("some x: E(x,x)", "some x: some y: E(x,y) & E(y,x)", "some x: some y: some z: E(x,y) & E(y,z)")
        for structure in structures((("E", 2),), 3)[::19]:
            small = core(structure)[0]
            for text in texts:
                self.assertIs(is_true(structure, read(text), {}), is_true(small, read(text), {}))

    def test_automorphisms_are_isomorphisms(self):
        for structure in (ring(5), line(5), BARE[3], EDGE):
            self.assertEqual(automorphisms(structure)[0], isomorphism(structure, structure))


class NoChance(unittest.TestCase):
    def test_the_order_of_sets_does_not_matter(self):
        told = []
        for seed in ("0", "1", "77"):
            around = {**os.environ, "PYTHONHASHSEED": seed, "PYTHONPATH": str(TOP)}
            run = subprocess.run([sys.executable, "-c", SHOWN], env=around, capture_output=True, text=True, check=True)
            told.append(run.stdout)
        self.assertGreater(len(told[0]), 1000)
        self.assertEqual(told, told[:1] * 3)
