"""Whether values that anyone may have made are of the shapes that the document tells.

They may be of any kind. So each is asked for its kind before it is compared, counted
or looked up; and formulas within one another, however many, wait in a list.
"""

from finitestructures.formulas import inner

# Structures have at most 5 elements. A paper with far more of them would only take long to look at.
MOST_ELEMENTS = 100


def is_points(value, many):
    """Whether a value is a tuple of elements of a structure that has many of them."""
    if type(value) is not tuple:
        return False
    return all(type(element) is int and 0 <= element < many for element in value)


def is_rising(rows):
    """Whether rows, which can be compared, rise, so that nothing stands in them twice."""
    return all(rows[at] < rows[at + 1] for at in range(len(rows) - 1))


def is_name(value):
    """Whether a value is a name of a value: a small letter, perhaps with one digit behind it."""
    if type(value) is not str or len(value) not in (1, 2):
        return False
    return "a" <= value[0] <= "z" and (len(value) == 1 or "0" <= value[1] <= "9")


def is_names(value, many):
    """Whether a value is a tuple of so many names of values."""
    if type(value) is not tuple or len(value) != many:
        return False
    for name in value:
        if not is_name(name):
            return False
    return True


def is_outside(value, places):
    """Whether a value is a formula but for what stands directly within it; places are those of each relation."""
    if type(value) is not tuple or not value or type(value[0]) is not str:
        return False
    kind = value[0]
    if kind in ("and", "or"):
        return len(value) == 2 and type(value[1]) is tuple
    if kind == "not":
        return len(value) == 2
    if kind in ("some", "all"):
        return len(value) == 3 and is_name(value[1])
    if kind == "same":
        return is_names(value[1:], 2)
    if kind != "rel" or len(value) != 3 or type(value[1]) is not str:
        return False
    return value[1] in places and is_names(value[2], places[value[1]])


def is_formula(value, structure):
    """Whether a value is a formula with no relations but those of the structure."""
    places = {name: many for name, many, _ in structure[2]}
    waiting = [value]
    while waiting:
        here = waiting.pop()
        if not is_outside(here, places):
            return False
        waiting.extend(inner(here))
    return True


def is_relation(value, kind, many):
    """Whether a value is a relation of this name and number of places over so many elements."""
    if type(value) is not tuple or len(value) != 3 or type(value[0]) is not str or type(value[1]) is not int:
        return False
    name, places, rows = value
    if (name, places) != kind or type(rows) is not tuple:
        return False
    return all([is_points(row, many) and len(row) == places for row in rows]) and is_rising(rows)


def is_structure(value, kinds):
    """Whether a value is a structure with relations of just these names and numbers of places."""
    if type(value) is not tuple or len(value) != 3 or type(value[0]) is not str or type(value[1]) is not int:
        return False
    word, many, relations = value
    if word != "structure" or not 1 <= many <= MOST_ELEMENTS:
        return False
    if type(relations) is not tuple or len(relations) != len(kinds):
        return False
    return all([is_relation(relation, kind, many) for relation, kind in zip(relations, kinds)])
