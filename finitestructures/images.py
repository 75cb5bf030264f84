"""Maps from one structure to another, each told as the tuple of the images of the elements.

A row of a relation is looked at as soon as its greatest element has an image. So
for each element of the first structure there are rows that are due, each with
the rows of the second structure to which it may be led.
"""

from finitestructures.checks import is_points
from finitestructures.points import all_points


def led(row, images):
    """What a row of elements is led to."""
    return tuple([images[element] for element in row])


def due_rows(structure, other):
    """For each element the rows that are due with it, each with the rows of the other structure's relation."""
    found = [[] for _ in range(structure[1])]
    for (_, _, rows), opposite in zip(structure[2], other[2]):
        allowed = {row: True for row in opposite[2]}
        for row in rows:
            found[max(row)].append((row, allowed))
    return found


def is_kept(due, images):
    """Whether all rows that are due are led to rows."""
    return all(led(row, images) in allowed for row, allowed in due)


def first_map(due, choices, images):
    """The least map that begins with the images and goes on with choices for each element, None if there is none."""
    at = len(images)
    if at == len(due):
        return images
    for one in choices[at]:
        longer = (*images, one)
        if is_kept(due[at], longer):
            found = first_map(due, choices, longer)
            if found is not None:
                return found
    return None


def least_leading(structure, other):
    """The least map from a structure to another one, None if there is none."""
    due = due_rows(structure, other)
    return first_map(due, [list(range(other[1])) for _ in due], ())


def all_maps(structure, other):
    """All maps from a structure to another one, rising."""
    found = [()]
    for due in due_rows(structure, other):
        longer = [(*images, one) for images in found for one in range(other[1])]
        found = [images for images in longer if is_kept(due, images)]
    return found


def is_map(structure, other, value):
    """Whether a value is a map from a structure to another one."""
    if not is_points(value, other[1]) or len(value) != structure[1]:
        return False
    return all([is_kept(due, value) for due in due_rows(structure, other)])


def with_relations(structure, relations):
    """The structure with more relations behind its own ones."""
    return ("structure", structure[1], (*structure[2], *relations))


def unlike(structure):
    """The structure with one more relation, of all pairs of unlike elements.

    A map is one to one exactly if it keeps this one, too.
    """
    rows = tuple([row for row in all_points(structure[1], 2) if row[0] != row[1]])
    return with_relations(structure, [("unlike", 2, rows)])


def denied(structure):
    """The structure with one more relation for each, of all rows that it does not have.

    A map keeps a relation both ways exactly if it keeps this one, too.
    """
    relations = []
    for name, places, rows in structure[2]:
        missing = tuple([row for row in all_points(structure[1], places) if row not in rows])
        relations.append((f"not {name}", places, missing))
    return with_relations(structure, relations)
