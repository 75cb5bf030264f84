"""Parts of structures, and cores: the least ones to which maps lead that leave them as they are."""

from itertools import combinations

from finitestructures.images import due_rows, first_map


def part_of(structure, chosen):
    """The structure on a rising tuple of its elements, which are numbered anew in their order."""
    number = {element: at for at, element in enumerate(chosen)}
    relations = []
    for name, places, rows in structure[2]:
        inside = [row for row in rows if all([element in number for element in row])]
        relations.append((name, places, tuple([tuple([number[element] for element in row]) for row in inside])))
    return ("structure", len(chosen), tuple(relations))


def core_set(structure):
    """The least set of elements, fewest first, to which a map leads that is the identity there."""
    due = due_rows(structure, structure)
    for many in range(1, structure[1] + 1):
        for chosen in combinations(range(structure[1]), many):
            choices = [(element,) if element in chosen else chosen for element in range(structure[1])]
            if first_map(due, choices, ()) is not None:
                return chosen
    return None


def core(structure):
    """The core of a structure, and the elements of the structure that it has."""
    chosen = core_set(structure)
    return (part_of(structure, chosen), chosen)


def is_core(structure):
    """Whether a structure is its own core."""
    return len(core_set(structure)) == structure[1]
