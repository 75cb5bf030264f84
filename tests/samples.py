"""Formulas and structures over which the tests run, always the same ones."""

from itertools import product

ATOMS = (
    ("rel", "R", ("x",)),
    ("rel", "E", ("x", "y")),
    ("rel", "E", ("y", "x")),
    ("same", "x", "y"),
    ("and", ()),
    ("or", ()),
)

ARROW = ("structure", 2, (("E", 2, ((0, 1),)),))
EDGE = ("structure", 2, (("E", 2, ((0, 1), (1, 0))),))
BARE = [("structure", many, ()) for many in range(1, 6)]

# Edges from 0 to 1, R of 0; and the same with R of 1.
TAIL = ("structure", 2, (("E", 2, ((0, 1),)), ("R", 1, ((0,),))))
HEAD = ("structure", 2, (("E", 2, ((0, 1),)), ("R", 1, ((1,),))))


def grown(formulas):
    """Formulas that have one or two of those given directly within them."""
    found = []
    for one in formulas:
        found.extend([("not", one), ("some", "x", one), ("all", "y", one), ("and", (one,)), ("or", (one,))])
        for two in formulas:
            found.extend([("and", (one, two)), ("or", (one, two))])
    return found


def numbered(number, depth):
    """A formula that depends on number alone, with at most depth formulas below it."""
    names = ("x", "y", "z", "x1", "t", "f", "s", "a0")
    one = names[number % 8]
    two = names[number // 8 % 8]
    if depth == 0:
        plain = (("rel", "R", (one,)), ("rel", "E", (one, two)), ("same", one, two), ("and", ()), ("or", ()))
        return plain[number % 7 % 5]
    below = (number * 7919 + 104729) % 1000003
    kind = number // 3 % 6
    if kind == 0:
        return ("not", numbered(below, depth - 1))
    if kind in (1, 2):
        return (("some", "all")[kind - 1], two, numbered(below, depth - 1))
    rows = [numbered((below + 7717 * k) % 1000003, depth - 1) for k in range(number // 5 % 4)]
    return ("and" if kind == 3 else "or", tuple(rows))


def formulas():
    """A good many formulas: all small ones of some shapes, then larger ones."""
    first = list(ATOMS)
    second = grown(first)
    third = grown(second[::6])
    return first + second + third[::3] + [numbered(k * 271 + 5, 2 + k % 4) for k in range(300)]


def structures(many):
    """All structures of so many elements with a relation E of two places and one R of one place."""
    return structures_of((("E", 2), ("R", 1)), many)


def structures_of(kinds, many):
    """All structures of so many elements with relations of these names and places, in order."""
    rows = [subsets(tuple(product(range(many), repeat=places))) for _, places in kinds]
    return [
        ("structure", many, tuple((name, places, row) for (name, places), row in zip(kinds, chosen)))
        for chosen in product(*rows)
    ]


def subsets(rows):
    """All rising tuples of some of the rows."""
    return [
        tuple(row for row, taken in zip(rows, choice) if taken)
        for choice in product((False, True), repeat=len(rows))
    ]


def scattered(rows, seed):
    """A rising tuple of some of the rows that depends on the seed alone."""
    return tuple(row for at, row in enumerate(rows) if (at * at * 31 + at * 17 * seed + seed * seed * 7) % 11 < 5)


def wide_structures(many):
    """Some structures of so many elements with the relations that formulas() names and one more."""
    rooms = tuple(range(many))
    pairs = tuple(product(rooms, repeat=2))
    line = tuple(pair for pair in pairs if pair[1] == pair[0] + 1)
    rows = [(scattered(pairs, 3), scattered(pairs, 8)), (line, tuple(sorted(pair[::-1] for pair in line))), (pairs, ())]
    ones = [scattered(tuple(product(rooms)), 1), ((many - 1,),), ()]
    return [
        ("structure", many, (("E", 2, one), ("F", 2, two), ("R", 1, three)))
        for (one, two), three in zip(rows, ones)
    ]


def line(many):
    """Elements one after the other, each less than those behind it."""
    rows = tuple((x, y) for x in range(many) for y in range(x + 1, many))
    return ("structure", many, (("E", 2, rows),))


def ring(many):
    """Elements around a ring, with edges both ways."""
    rows = {((x + step) % many, x) for x in range(many) for step in (1, many - 1)}
    return ("structure", many, (("E", 2, tuple(sorted(rows))),))


def point_pairs(structure, other, most):
    """All pairs of points, as many of both, of at most so many."""
    found = []
    for many in range(most + 1):
        rows = product(range(structure[1]), repeat=many), product(range(other[1]), repeat=many)
        found.extend(product(*rows))
    return found


def small_pairs():
    """Pairs of structures of one kind, of one or two elements, and a few of three."""
    for kinds in ((("E", 2),), (("P", 1), ("Q", 1)), (("E", 2), ("R", 1))):
        rooms = structures_of(kinds, 1) + structures_of(kinds, 2)
        step = 1 if len(rooms) < 30 else 7
        three = structures_of(kinds, 3)
        rooms = rooms[::step] + three[len(three) // 3::len(three) // 3 + 1]
        for structure, other in product(rooms, repeat=2):
            yield structure, other


def three_pairs():
    """Pairs of structures of which one at least has three elements."""
    three = structures_of((("E", 2),), 3)
    rooms = structures_of((("E", 2),), 2)[5::5] + three[::61]
    return [pair for pair in product(rooms, repeat=2) if 3 in (pair[0][1], pair[1][1])]
