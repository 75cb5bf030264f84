"""Plain second ways for maps, isomorphisms, what is defined, and pebbles: all tuples are gone through, word by word."""

from itertools import permutations, product

from tests import plain, plain_games
from tests.plain_games import is_points, is_tuple


def led(row, images):
    return tuple(images[x] for x in row)


def is_map(structure, other, images):
    """Point m1: each row of a relation is led to a row of it."""
    return all(
        led(row, images) in opposite
        for (_, _, rows), (_, _, opposite) in zip(structure[2], other[2]) for row in rows
    )


def maps(structure, other):
    """All maps, by going through all tuples."""
    rows = product(range(other[1]), repeat=structure[1])
    return [images for images in rows if is_map(structure, other, images)]


def isomorphisms(structure, other):
    """Point d1, by going through all orders of the elements."""
    if structure[1] != other[1]:
        return []
    found = []
    for images in permutations(range(structure[1])):
        back = tuple(images.index(x) for x in range(structure[1]))
        if is_map(structure, other, images) and is_map(other, structure, back):
            found.append(images)
    return found


def renamed(structure, order):
    """The structure with the elements in another order."""
    relations = [(name, places, tuple(sorted(led(row, order) for row in rows))) for name, places, rows in structure[2]]
    return ("structure", structure[1], tuple(relations))


def is_moved(structure, rows):
    """Whether an automorphism leads a tuple of rows out of them."""
    return any(led(row, images) not in rows for images in isomorphisms(structure, structure) for row in rows)


def is_definition(structure, many, rows, paper):
    """Point d2, of any value."""
    if not is_tuple(paper) or len(paper) == 0 or type(paper[0]) is not str:
        return False
    if paper[0] == "moved" and len(paper) == 3:
        _, images, row = paper
        if not is_points(images, structure[1]) or images not in isomorphisms(structure, structure):
            return False
        return is_points(row, structure[1]) and row in rows and led(row, images) not in rows
    if paper[0] != "formula" or len(paper) != 2 or not plain_games.is_formula(structure, paper[1]):
        return False
    names = [f"v{k}" for k in range(many)]
    if not plain.plain_free(paper[1]) <= set(names):
        return False
    return defined_by(structure, names, paper[1]) == rows


def defined_by(structure, names, formula):
    """The tuples of which a formula is true, rising."""
    rows = product(range(structure[1]), repeat=len(names))
    return tuple(row for row in rows if plain.holds(structure, formula, dict(zip(names, row))))


def positions(structure, other, pebbles):
    """All positions of at most so many places."""
    found = []
    for many in range(pebbles + 1):
        pairs = product(product(range(structure[1]), repeat=many), product(range(other[1]), repeat=many))
        found.extend(pair for pair in pairs if plain_games.fair(structure, other, *pair))
    return found


def stays(structure, other, pebbles, rows, pair):
    """Whether a position has in rows all that point p1 asks for."""
    one, two = pair
    if any((one[:k] + one[k + 1:], two[:k] + two[k + 1:]) not in rows for k in range(len(one))):
        return False
    if len(one) == pebbles:
        return True
    xs, ys = range(structure[1]), range(other[1])
    if not all(any(((*one, x), (*two, y)) in rows for y in ys) for x in xs):
        return False
    return all(any(((*one, x), (*two, y)) in rows for x in xs) for y in ys)


def greatest_system(structure, other, pebbles):
    """All positions but those that cannot stay, None if the empty one cannot."""
    rows = set(positions(structure, other, pebbles))
    while True:
        gone = {pair for pair in rows if not stays(structure, other, pebbles, rows, pair)}
        if not gone:
            return tuple(sorted(rows)) if ((), ()) in rows else None
        rows -= gone


def is_system(structure, other, pebbles, rows):
    """Point p1, of any value."""
    if not is_tuple(rows) or not all(plain_games.is_fair_pair(structure, other, pair) for pair in rows):
        return False
    if list(rows) != sorted(rows) or len(set(rows)) != len(rows) or ((), ()) not in rows:
        return False
    if any(len(one) > pebbles for one, _ in rows):
        return False
    held = set(rows)
    return all(stays(structure, other, pebbles, held, pair) for pair in rows)


def is_parting_sentence(structure, other, pebbles, formula):
    """Point p2: a sentence with at most so many names, true in the first structure and not in the second one."""
    if not plain_games.is_formula(structure, formula) or plain.plain_free(formula):
        return False
    if len(plain.plain_names(formula)) > pebbles:
        return False
    return plain.holds(structure, formula, {}) and not plain.holds(other, formula, {})


def is_plain(formula):
    """Point m1: whether a formula is a plain sentence."""
    bound = set()
    while formula[0] == "some":
        bound.add(formula[1])
        formula = formula[2]
    if formula[0] != "and":
        return False
    return all(row[0] in ("rel", "same") and plain.plain_free(row) <= bound for row in formula[1])


def judge_map(structure, other, paper):
    """Whether a value is a map, or a plain sentence true in the first structure and not in the second one."""
    if not is_tuple(paper) or len(paper) != 2 or type(paper[0]) is not str:
        return False
    kind, told = paper
    if kind == "map":
        return is_points(told, other[1]) and len(told) == structure[1] and is_map(structure, other, told)
    if kind != "sentence" or not plain_games.is_formula(structure, told) or not is_plain(told):
        return False
    return plain.holds(structure, told, {}) and not plain.holds(other, told, {})


def shape(structure):
    """What two structures share exactly if they are isomorphic: all the orders of the elements of one."""
    return frozenset(renamed(structure, order) for order in permutations(range(structure[1])))
