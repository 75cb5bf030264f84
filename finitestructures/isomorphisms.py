"""Isomorphisms: one to one and onto, and they keep each relation both ways."""

from itertools import permutations

from finitestructures.checks import is_points
from finitestructures.images import all_maps, denied, least_leading, led, unlike
from finitestructures.points import all_points


def strict(structure):
    """A structure whose maps, to such ones with as many elements, are the isomorphisms of the structure."""
    return unlike(denied(structure))


def isomorphism(structure, other):
    """The least isomorphism from a structure to another one, None if there is none."""
    if structure[1] != other[1]:
        return None
    return least_leading(strict(structure), strict(other))


def automorphisms(structure):
    """All isomorphisms of a structure to itself, rising."""
    return tuple(all_maps(strict(structure), strict(structure)))


def orbits(structure, many):
    """The tuples of so many elements in classes of those that automorphisms lead to one another, all rising."""
    ways = automorphisms(structure)
    found = []
    placed = set()
    for row in all_points(structure[1], many):
        if row not in placed:
            orbit = tuple(sorted({led(row, images) for images in ways}))
            found.append(orbit)
            for like in orbit:
                placed.add(like)
    return tuple(found)


def renamed(structure, images):
    """The structure with the images of its elements, one to one, in their place."""
    relations = []
    for name, places, rows in structure[2]:
        relations.append((name, places, tuple(sorted([led(row, images) for row in rows]))))
    return ("structure", structure[1], tuple(relations))


def least_form(structure):
    """The least structure, as a tuple, that is isomorphic to a structure."""
    least = structure
    for images in permutations(range(structure[1])):
        least = min(least, renamed(structure, images))
    return least


def is_isomorphism(structure, other, value):
    """Whether a value is an isomorphism from a structure to another one."""
    if not is_points(value, other[1]) or not len(value) == structure[1] == other[1]:
        return False
    return len(set(value)) == len(value) and renamed(structure, value) == other
