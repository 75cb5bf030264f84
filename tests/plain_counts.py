"""Plain second ways for parts, cores, products, structures of sentences and counts, word by word."""

from itertools import combinations, product

from tests import plain, plain_maps
from tests.plain_games import is_points, is_tuple
from tests.samples import structures_of


def part_of(structure, chosen):
    """Point m3: relations among the chosen elements, which are numbered anew."""
    relations = tuple(
        (name, places, tuple(sorted(tuple(chosen.index(x) for x in row) for row in rows if set(row) <= set(chosen))))
        for name, places, rows in structure[2]
    )
    return ("structure", len(chosen), relations)


def core_set(structure):
    """The least set of elements to which a map leads that is the identity there."""
    found = plain_maps.maps(structure, structure)
    for many in range(1, structure[1] + 1):
        for chosen in combinations(range(structure[1]), many):
            if any(set(images) == set(chosen) and all(images[x] == x for x in chosen) for images in found):
                return chosen
    raise AssertionError("the identity is a map")


def product_of(structure, other):
    """Point m4, relation by relation over all tuples of pairs."""
    pairs = list(product(range(structure[1]), range(other[1])))
    relations = []
    for (name, places, rows), (_, _, opposite) in zip(structure[2], other[2]):
        told = tuple(
            row for row in product(range(len(pairs)), repeat=places)
            if tuple(pairs[k][0] for k in row) in rows and tuple(pairs[k][1] for k in row) in opposite
        )
        relations.append((name, places, told))
    return ("structure", len(pairs), tuple(relations))


def sum_of(structure, other):
    """Point m4: the elements and rows of both."""
    low, high = list(range(structure[1])), list(range(structure[1], structure[1] + other[1]))
    relations = []
    for (name, places, rows), (_, _, opposite) in zip(structure[2], other[2]):
        told = tuple(
            row for row in product(low + high, repeat=places)
            if row in rows or (set(row) <= set(high) and tuple(high.index(x) for x in row) in opposite)
        )
        relations.append((name, places, told))
    return ("structure", len(low) + len(high), tuple(relations))


def all_structures(kinds, many):
    """Point o1: all structures, ordered as tuples are."""
    return sorted(structures_of(kinds, many))


def models(kinds, sentence, many):
    """All structures of so many elements in which a sentence is true, by trying all."""
    return [structure for structure in all_structures(kinds, many) if plain.holds(structure, sentence, {})]


def one_to_one(structure, other):
    """All maps that lead no two elements to the same one."""
    return [images for images in plain_maps.maps(structure, other) if len(set(images)) == structure[1]]


def onto(structure, other):
    """All maps that lead to each element."""
    return [images for images in plain_maps.maps(structure, other) if set(images) == set(range(other[1]))]


def partitions(many):
    """Point n1: all tuples that have for each element the least element of its class."""
    rows = product(range(many), repeat=many)
    return tuple(row for row in rows if all(row[x] <= x and row[row[x]] == row[x] for x in range(many)))


def quotient(structure, partition):
    """Point n1: a relation holds of classes if it holds of some elements of them."""
    classes = [[x for x in range(structure[1]) if partition[x] == least] for least in sorted(set(partition))]
    relations = []
    for name, places, rows in structure[2]:
        told = tuple(
            row for row in product(range(len(classes)), repeat=places)
            if any(chosen in rows for chosen in product(*[classes[k] for k in row]))
        )
        relations.append((name, places, told))
    return ("structure", len(classes), tuple(relations))


def is_structure(value):
    """Point c1, of any value."""
    if not is_tuple(value) or len(value) != 3 or type(value[0]) is not str or value[0] != "structure":
        return False
    _, many, relations = value
    if type(many) is not int or many < 1 or not is_tuple(relations):
        return False
    for relation in relations:
        if not is_tuple(relation) or len(relation) != 3:
            return False
        name, places, rows = relation
        if type(name) is not str or len(name) != 1 or not "A" <= name <= "Z":
            return False
        if type(places) is not int or places not in (1, 2) or not is_tuple(rows):
            return False
        if not all(is_points(row, many) and len(row) == places for row in rows):
            return False
        if list(rows) != sorted(set(rows)):
            return False
    names = [relation[0] for relation in relations]
    return names == sorted(set(names))


def kinds_of(structure):
    return [relation[:2] for relation in structure[2]]


def judge_counts(structure, other, paper):
    """Whether a value is an isomorphism, or a structure with its numbers of maps, which are unlike."""
    if not is_tuple(paper) or len(paper) == 0 or type(paper[0]) is not str:
        return False
    if paper[0] == "isomorphism" and len(paper) == 2:
        return is_points(paper[1], other[1]) and paper[1] in plain_maps.isomorphisms(structure, other)
    if paper[0] != "counts" or len(paper) != 4:
        return False
    _, third, one, two = paper
    if not is_structure(third) or kinds_of(third) != kinds_of(structure):
        return False
    if type(one) is not int or type(two) is not int or one == two:
        return False
    return one == len(plain_maps.maps(third, structure)) and two == len(plain_maps.maps(third, other))


def part_by_counts(structure, other):
    """Point n2, by trying all structures in order."""
    found = plain_maps.isomorphisms(structure, other)
    if found:
        return ("isomorphism", min(found))
    for many in range(1, max(structure[1], other[1]) + 1):
        for third in all_structures(tuple(kinds_of(structure)), many):
            one, two = len(plain_maps.maps(third, structure)), len(plain_maps.maps(third, other))
            if one != two:
                return ("counts", third, one, two)
    raise AssertionError("no structure has unlike numbers of maps")
