"""Points: tuples of elements, the names v0, v1, .. that stand for them, and plain formulas about them."""


def rows_of(things, places):
    """All tuples of so many of the things, in their order."""
    rows = [()]
    for _ in range(places):
        rows = [(*row, thing) for row in rows for thing in things]
    return rows


def all_points(many, places):
    """All tuples of so many elements of a structure that has many of them, rising."""
    return rows_of(list(range(many)), places)


def point_name(place):
    """The name of the value of the point at a place."""
    return f"v{place}"


def point_names(many):
    """The names of the values of so many points."""
    return tuple([point_name(place) for place in range(many)])


def point_values(points):
    """The values of the names of points."""
    return {point_name(place): element for place, element in enumerate(points)}


def last_atoms(structure, many):
    """All rel, and all same with another point, about so many points in which the last of them stands."""
    names = point_names(many)
    last = names[-1]
    found = [("same", name, last) for name in names[:-1]]
    for relation, places, _ in structure[2]:
        found.extend([("rel", relation, row) for row in rows_of(names, places) if last in row])
    return found


def subsets(things):
    """All tuples of some of the things, none of them too, each in their order; all rise if the things do."""
    found = [()]
    for thing in things[::-1]:
        # The empty one stays the first; those with this thing come ahead of those without it.
        found = [(), *[(thing, *row) for row in found], *found[1:]]
    return found
