"""Plain second ways for games and papers, choice by choice and word by word as the document tells them."""

from itertools import product

from tests import plain


def fair(structure, other, points, others):
    """Point c5: the points are the same at the same places, and each relation holds at the same places."""
    spots = range(len(points))
    for i, j in product(spots, repeat=2):
        if (points[i] == points[j]) != (others[i] == others[j]):
            return False
    for (_, places, rows), (_, _, opposite) in zip(structure[2], other[2]):
        for chosen in product(spots, repeat=places):
            here = tuple(points[i] for i in chosen) in rows
            if here != (tuple(others[i] for i in chosen) in opposite):
                return False
    return True


def alike(structure, other, points, others, rounds):
    """Point c6, choice by choice."""
    if not fair(structure, other, points, others):
        return False
    if rounds == 0:
        return True

    def behind(x, y):
        return alike(structure, other, (*points, x), (*others, y), rounds - 1)

    ones, twos = range(structure[1]), range(other[1])
    answered = all(any(behind(x, y) for y in twos) for x in ones)
    return answered and all(any(behind(x, y) for x in ones) for y in twos)


def isomorphic(structure, other, points, others):
    """Whether a one to one map of the elements keeps all relations and leads the points to the others."""
    if structure[1] != other[1]:
        return False
    rooms = range(structure[1])
    return any(
        tuple(image[x] for x in points) == others and fair(structure, other, tuple(rooms), image)
        for image in product(rooms, repeat=structure[1])
    )


def is_tuple(value):
    return type(value) is tuple


def is_points(value, many):
    return is_tuple(value) and all(type(x) is int and x in range(many) for x in value)


def is_fair_pair(structure, other, value):
    if not is_tuple(value) or len(value) != 2:
        return False
    one, two = value
    if not is_points(one, structure[1]) or not is_points(two, other[1]) or len(one) != len(two):
        return False
    return fair(structure, other, one, two)


def is_strategy(structure, other, points, others, rows):
    """Point g1, word by word, of rows for any number of rounds, with the pair in the last row."""
    if not is_tuple(rows) or len(rows) == 0:
        return False
    for row in rows:
        if not is_tuple(row) or not all(is_fair_pair(structure, other, pair) for pair in row):
            return False
        if list(row) != sorted(row) or len(set(row)) != len(row):
            return False
    for left in range(len(rows) - 1):
        for one, two in rows[left + 1]:
            for x in range(structure[1]):
                if not any(((*one, x), (*two, y)) in rows[left] for y in range(other[1])):
                    return False
            for y in range(other[1]):
                if not any(((*one, x), (*two, y)) in rows[left] for x in range(structure[1])):
                    return False
    return (points, others) in rows[-1]


def is_name(value):
    if type(value) is not str or value == "" or value[0] not in "abcdefghijklmnopqrstuvwxyz":
        return False
    return value[1:] in ("", "0", "1", "2", "3", "4", "5", "6", "7", "8", "9")


def is_formula(structure, value):
    """Point c3, with the relations of a structure."""
    if not is_tuple(value) or len(value) < 2 or type(value[0]) is not str:
        return False
    if value[0] == "rel":
        if len(value) != 3 or not is_tuple(value[2]) or not all(is_name(name) for name in value[2]):
            return False
        return any(type(value[1]) is str and (value[1], len(value[2])) == row[:2] for row in structure[2])
    if value[0] == "same":
        return len(value) == 3 and is_name(value[1]) and is_name(value[2])
    if value[0] == "not":
        return len(value) == 2 and is_formula(structure, value[1])
    if value[0] in ("and", "or"):
        return len(value) == 2 and is_tuple(value[1]) and all(is_formula(structure, row) for row in value[1])
    if value[0] in ("some", "all"):
        return len(value) == 3 and is_name(value[1]) and is_formula(structure, value[2])
    return False


def named(points):
    return {f"v{place}": x for place, x in enumerate(points)}


def is_parting(structure, other, points, others, rounds, value):
    """Point g2: whether a value is a formula that parts the points, of a rank of at most the rounds."""
    if not is_formula(structure, value) or plain.plain_rank(value) > rounds:
        return False
    if not plain.plain_free(value) <= set(named(points)):
        return False
    return plain.holds(structure, value, named(points)) and not plain.holds(other, value, named(others))


def judge(structure, other, points, others, rounds, paper):
    """Whether a value is a right paper of decide."""
    if not is_tuple(paper) or len(paper) != 2 or type(paper[0]) is not str:
        return False
    if paper[0] == "strategy":
        right = is_strategy(structure, other, points, others, paper[1])
        return right and len(paper[1]) == rounds + 1
    return paper[0] == "formula" and is_parting(structure, other, points, others, rounds, paper[1])


def full_strategy(structure, other, points, others, rounds):
    """For each number of rounds left, all pairs that are alike for them, with as many points as there are then."""
    found = []
    for left in range(rounds + 1):
        many = len(points) + rounds - left
        pairs = product(product(range(structure[1]), repeat=many), product(range(other[1]), repeat=many))
        found.append(tuple(pair for pair in pairs if alike(structure, other, *pair, left)))
    return tuple(found)


def textbook(structure, points, rounds):
    """Hintikka's formula as the textbooks tell it: all that is plain, and what each element and all of them become."""
    names = list(named(points))
    atoms = [("same", one, two) for one, two in product(names, repeat=2)]
    for name, places, _ in structure[2]:
        atoms.extend([("rel", name, chosen) for chosen in product(names, repeat=places)])
    rows = [atom if plain.holds(structure, atom, named(points)) else ("not", atom) for atom in atoms]
    if rounds > 0:
        name = f"v{len(points)}"
        below = tuple(textbook(structure, (*points, x), rounds - 1) for x in range(structure[1]))
        rows.extend([("some", name, row) for row in below])
        rows.append(("all", name, ("or", below)))
    return ("and", tuple(rows))
