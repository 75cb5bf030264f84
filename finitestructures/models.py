"""All structures of some kinds, and those of them in which a sentence is true."""

from itertools import permutations

from finitestructures.isomorphisms import renamed
from finitestructures.points import all_points, subsets
from finitestructures.truth import models_among


def structures(kinds, many):
    """All structures of the kinds with so many elements, in order."""
    found = [()]
    for name, places in kinds:
        ways = subsets(all_points(many, places))
        found = [(*relations, (name, places, rows)) for relations in found for rows in ways]
    return tuple([("structure", many, relations) for relations in found])


def models(kinds, sentence, many):
    """The structures with so many elements in which a sentence is true, in order."""
    return models_among(structures(kinds, many), sentence)


def least_model(kinds, sentence, most):
    """The first structure of fewest elements, at most so many, in which a sentence is true, None if there is none."""
    for many in range(1, most + 1):
        found = models(kinds, sentence, many)
        if found:
            return found[0]
    return None


def spectrum(kinds, sentence, most):
    """The numbers of elements up to most for which there is a structure in which a sentence is true."""
    return tuple([many for many in range(1, most + 1) if models(kinds, sentence, many)])


def count_models(kinds, sentence, many):
    """How many structures make a sentence true, and how many of these are pairwise not isomorphic."""
    found = models(kinds, sentence, many)
    different = 0
    seen = set()
    for structure in found:
        if structure not in seen:
            different += 1
            for images in permutations(range(many)):
                seen.add(renamed(structure, images))
    return (len(found), different)


def follows(kinds, sentence, other, most):
    """None if each structure that makes a sentence true makes the other one true, else the first that does not."""
    return least_model(kinds, ("and", (sentence, ("not", other))), most)
