"""Products and sums of two structures of one kind."""


def product(structure, other):
    """The structure on the pairs (x, y), each numbered x times the other's many and y."""
    many = other[1]
    relations = []
    for (name, places, rows), opposite in zip(structure[2], other[2]):
        found = [
            tuple([x * many + y for x, y in zip(one, two)])
            for one in rows for two in opposite[2]
        ]
        relations.append((name, places, tuple(sorted(found))))
    return ("structure", structure[1] * many, tuple(relations))


def sum_of(structure, other):
    """The structure on the elements of both, the other one's numbers raised."""
    many = structure[1]
    relations = []
    for (name, places, rows), opposite in zip(structure[2], other[2]):
        raised = [tuple([element + many for element in row]) for row in opposite[2]]
        relations.append((name, places, (*rows, *raised)))
    return ("structure", many + other[1], tuple(relations))
