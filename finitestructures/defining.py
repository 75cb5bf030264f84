"""Sets of tuples of elements: each is defined by a formula, or moved by an automorphism."""

from finitestructures.checks import is_formula, is_points
from finitestructures.formulas import free, together
from finitestructures.images import led
from finitestructures.isomorphisms import automorphisms, is_isomorphism, orbits
from finitestructures.points import point_name, point_names
from finitestructures.truth import all_values
from finitestructures.types import hintikka


def define(structure, many, rows):
    """A paper that holds a formula that defines the rows, or an automorphism and a row that it leads out of them."""
    inside = {row: True for row in rows}
    for images in automorphisms(structure):
        for row in rows:
            if led(row, images) not in inside:
                return ("moved", images, row)
    found = [orbit_formula(structure, orbit[0]) for orbit in orbits(structure, many) if orbit[0] in inside]
    return ("formula", together("or", found))


def orbit_formula(structure, row):
    """A formula that defines all that automorphisms lead a row to.

    It tells of all elements, those of the row and the others, what holds of them
    and which ones are alike. So whatever it is true of, an automorphism leads there.
    """
    rest = [element for element in range(structure[1]) if element not in row]
    formula = hintikka(structure, (*row, *rest), 0)
    for place in range(len(row) + len(rest) - 1, len(row) - 1, -1):
        formula = ("some", point_name(place), formula)
    return formula


def is_definition(structure, many, rows, paper):
    """Whether a value is a right paper of define, whoever made it."""
    if type(paper) is not tuple or not paper or type(paper[0]) is not str:
        return False
    if paper[0] == "formula" and len(paper) == 2:
        return is_defined_by(structure, many, rows, paper[1])
    if paper[0] == "moved" and len(paper) == 3:
        return is_moved_by(structure, rows, paper[1], paper[2])
    return False


def is_defined_by(structure, many, rows, value):
    """Whether a value is a formula that defines the rows."""
    if not is_formula(value, structure):
        return False
    names = point_names(many)
    return all([name in names for name in free(value)]) and all_values(structure, value, names) == rows


def is_moved_by(structure, rows, images, row):
    """Whether values are an automorphism and one of the rows, which it leads out of them."""
    if not is_isomorphism(structure, structure, images) or not is_points(row, structure[1]):
        return False
    return row in rows and led(row, images) not in rows


def defined_sets(structure):
    """How many sets of elements are defined: those that have all of a class, or none of it."""
    return 1 << len(orbits(structure, 1))
