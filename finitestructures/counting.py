"""Counts of maps: how they add up, and that structures with all counts alike are isomorphic."""

from finitestructures.checks import is_structure
from finitestructures.cores import part_of
from finitestructures.images import all_maps, unlike
from finitestructures.isomorphisms import is_isomorphism, isomorphism
from finitestructures.maps import count_maps
from finitestructures.models import structures
from finitestructures.points import subsets


def count_one_to_one(structure, other):
    """How many maps there are that lead no two elements to the same one."""
    return count_maps(unlike(structure), unlike(other))


def count_onto(structure, other):
    """How many maps there are that lead to each element of the other structure."""
    return len([images for images in all_maps(structure, other) if len(set(images)) == other[1]])


def partitions(many):
    """All partitions of so many elements, each told by the least element of each element's class, rising."""
    found = [()]
    for element in range(many):
        found = [(*row, least) for row in found for least in [*sorted(set(row)), element]]
    return tuple(found)


def quotient(structure, partition):
    """The structure on the classes of a partition, numbered by their least elements."""
    number = {least: at for at, least in enumerate(sorted(set(partition)))}
    relations = []
    for name, places, rows in structure[2]:
        found = [tuple([number[partition[element]] for element in row]) for row in rows]
        relations.append((name, places, tuple(sorted(set(found)))))
    return ("structure", len(number), tuple(relations))


def sums(structure, other):
    """Two ways in which the number of maps adds up: over partitions of the first, over sets of the second."""
    ways = [quotient(structure, partition) for partition in partitions(structure[1])]
    parts = [part_of(other, chosen) for chosen in subsets(list(range(other[1]))) if chosen]
    return (
        tuple([count_one_to_one(way, other) for way in ways]),
        tuple([count_onto(structure, one) for one in parts]),
    )


def kinds_of(structure):
    """The names and places of the relations of a structure."""
    return tuple([(name, places) for name, places, _ in structure[2]])


def part_by_counts(structure, other):
    """A paper that holds the least isomorphism, or else the first structure with unlike numbers of maps to both."""
    images = isomorphism(structure, other)
    if images is not None:
        return ("isomorphism", images)
    for many in range(1, max(structure[1], other[1]) + 1):
        for third in structures(kinds_of(structure), many):
            one, two = count_maps(third, structure), count_maps(third, other)
            if one != two:
                return ("counts", third, one, two)
    return None


def judge_counts(structure, other, paper):
    """Whether a value is an isomorphism, or a structure with its right numbers of maps, which are unlike."""
    if type(paper) is not tuple or not paper or type(paper[0]) is not str:
        return False
    if paper[0] == "isomorphism" and len(paper) == 2:
        return is_isomorphism(structure, other, paper[1])
    if paper[0] == "counts" and len(paper) == 4:
        return is_unlike_count(structure, other, paper[1], paper[2:])
    return False


def is_unlike_count(structure, other, third, numbers):
    """Whether a value is a structure of their kind and two more are its numbers of maps to both, which are unlike."""
    if not is_structure(third, kinds_of(structure)):
        return False
    if type(numbers[0]) is not int or type(numbers[1]) is not int:
        return False
    return numbers[0] != numbers[1] and numbers == (count_maps(third, structure), count_maps(third, other))
