"""Formulas and structures over which the tests run, always the same ones."""

from itertools import product

ATOMS = (
    ("rel", "R", ("x",)),
    ("rel", "E", ("x", "y")),
    ("rel", "E", ("y", "x")),
    ("same", "x", "y"),
    ("and", ()),
    ("or", ()),
)


def grown(formulas):
    """Formulas that have one or two of those given directly within them."""
    found = []
    for one in formulas:
        found.extend([("not", one), ("some", "x", one), ("all", "y", one), ("and", (one,)), ("or", (one,))])
        for two in formulas:
            found.extend([("and", (one, two)), ("or", (one, two))])
    return found


def numbered(number, depth):
    """A formula that depends on number alone, with at most depth formulas below it."""
    names = ("x", "y", "z", "x1", "t", "f", "s", "a0")
    one = names[number % 8]
    two = names[number // 8 % 8]
    if depth == 0:
        plain = (("rel", "R", (one,)), ("rel", "E", (one, two)), ("same", one, two), ("and", ()), ("or", ()))
        return plain[number % 7 % 5]
    below = (number * 7919 + 104729) % 1000003
    kind = number // 3 % 6
    if kind == 0:
        return ("not", numbered(below, depth - 1))
    if kind in (1, 2):
        return (("some", "all")[kind - 1], two, numbered(below, depth - 1))
    rows = [numbered((below + 7717 * k) % 1000003, depth - 1) for k in range(number // 5 % 4)]
    return ("and" if kind == 3 else "or", tuple(rows))


def formulas():
    """A good many formulas: all small ones of some shapes, then larger ones."""
    first = list(ATOMS)
    second = grown(first)
    third = grown(second[::6])
    return first + second + third[::3] + [numbered(k * 271 + 5, 2 + k % 4) for k in range(300)]


def structures(many):
    """All structures of so many elements with a relation E of two places and one R of one place."""
    rooms = tuple(range(many))
    return [
        ("structure", many, (("E", 2, pairs), ("R", 1, ones)))
        for pairs in subsets(tuple(product(rooms, repeat=2)))
        for ones in subsets(tuple(product(rooms)))
    ]


def subsets(rows):
    """All rising tuples of some of the rows."""
    return [
        tuple(row for row, taken in zip(rows, choice) if taken)
        for choice in product((False, True), repeat=len(rows))
    ]
