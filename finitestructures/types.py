"""Tuples of elements in classes of those that are alike for some rounds, and Hintikka's formulas, which tell them."""

from finitestructures.formulas import together
from finitestructures.games import Game, meeting
from finitestructures.points import all_points, last_atoms, point_name, point_names, point_values
from finitestructures.truth import is_true


def classes(structure, many, rounds):
    """The tuples of so many elements in classes of those that are alike for the rounds, all rising."""
    game = Game(structure, structure)
    found = []
    for points in all_points(structure[1], many):
        like = [rows for rows in found if game.alike(meeting(rows[0], points), rounds)]
        if like:
            like[0].append(points)
        else:
            found.append([points])
    return tuple([tuple(rows) for rows in found])


def hintikka(structure, points, rounds):
    """A formula that is true with points of a structure of the same kind exactly if they are alike for the rounds."""
    rows = [fact for many in range(1, len(points) + 1) for fact in last_facts(structure, points[:many])]
    return together("and", [*rows, *futures(structure, points, rounds)])


def last_facts(structure, points):
    """What is true of the last of the points, with those ahead of it and alone."""
    told = [(atom, is_true(structure, atom, point_values(points))) for atom in last_atoms(structure, len(points))]
    return [atom if here else ("not", atom) for atom, here in told]


def futures(structure, points, rounds):
    """What is true, for the rounds, of the elements that are none of the points.

    An element that is one of the points tells nothing more, so the formulas pass over it.
    """
    if rounds == 0:
        return []
    found = []
    for element in range(structure[1]):
        if element not in points:
            behind = (*points, element)
            found.append(together("and", [*last_facts(structure, behind), *futures(structure, behind, rounds - 1)]))
    # Elements that are alike for the rounds behind have the same formula, if the formulas within stand in order.
    found = sorted(found)
    name = point_name(len(points))
    known = [("same", old, name) for old in point_names(len(points))]
    return [*[("some", name, row) for row in found], ("all", name, together("or", [*known, *found]))]
