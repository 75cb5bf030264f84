"""Truth of formulas in structures.

A formula within names of values has a table: a whole number each bit of which
stands for one of some structures and for elements in the place of all these
names, and is set where the formula is true of them. With m structures of n
elements each and names x, y, z the bit is the place of the structure, from 0,
and m * (x + y * n + z * n * n) more. So each not, and, or, some and all takes a
few steps, however many structures there are and however many values the names
around it may have.
"""

from finitestructures.formulas import handed_down, inner
from finitestructures.points import all_points


class Tables:
    """The tables of formulas in structures of one kind that have as many elements.

    Names that a formula is not within have a fixed value.
    """

    def __init__(self, structures, fixed):
        self.structures = structures
        self.many = structures[0][1]
        self.fixed = fixed
        self.sizes = [len(structures)]
        self.known = {}
        self.known_having = {}
        self.known_holding = {}

    def size(self, names):
        """How many bits a table within the names has."""
        while len(self.sizes) <= len(names):
            self.sizes.append(self.sizes[-1] * self.many)
        return self.sizes[len(names)]

    def full(self, names):
        """The table within the names of what is always true."""
        return (1 << self.size(names)) - 1

    def bit(self, row):
        """The bit that stands for the first structure and the elements of the row, in the place of as many names."""
        return sum([element * self.size(row[:at]) for at, element in enumerate(row)])

    def having(self, name, names):
        """For each element, the table within the names of this name having it as its value."""
        key = (name, names)
        if key not in self.known_having:
            self.known_having[key] = self.all_having(name, names)
        return self.known_having[key]

    def all_having(self, name, names):
        """The tables that having keeps."""
        if name not in names:
            full = self.full(names)
            return [full if element == self.fixed[name] else 0 for element in range(self.many)]
        at = names.index(name)
        full = self.full(names[:at])
        found = [full << (element * self.size(names[:at])) for element in range(self.many)]
        return [self.widened(table, names, at + 1) for table in found]

    def widened(self, table, names, place):
        """The table within the names of what has this table within those of them ahead of the place."""
        for at in range(place, len(names)):
            table = self.repeated(table, self.size(names[:at]))
        return table

    def repeated(self, table, size):
        """The table put once for each element, this many bits apart."""
        return sum([table << (element * size) for element in range(self.many)])

    def holding(self, name):
        """For each row for which a relation holds somewhere, the table within no names of its holding."""
        if name not in self.known_holding:
            found = {}
            for at, structure in enumerate(self.structures):
                relations = {relation: rows for relation, _, rows in structure[2]}
                for row in relations[name]:
                    found[row] = found.get(row, 0) | (1 << at)
            self.known_holding[name] = found
        return self.known_holding[name]

    def plain(self, formula, names):
        """The table of a rel or a same, which is kept: it may stand in a formula many times."""
        key = (formula, names)
        if key not in self.known:
            self.known[key] = self.looked_up(formula, names)
        return self.known[key]

    def looked_up(self, formula, names):
        """The table of a rel or a same."""
        if formula[0] == "same":
            used = formula[1:]
            held = {(element, element): self.full(()) for element in range(self.many)}
        else:
            used = formula[2]
            held = self.holding(formula[1])
        choices = [self.having(name, names) for name in used]
        found = 0
        for row, table in held.items():
            # What holds in all structures, as it always does where there is one alone, needs no widening.
            wide = self.full(names) if table == self.full(()) else self.widened(table, names, 0)
            found = found | both([tables[element] for tables, element in zip(choices, row)], wide)
        return found

    def made(self, formula, names, rows):
        """The table of a formula that is no rel and no same, from the tables of those directly within it."""
        kind = formula[0]
        if kind == "not":
            return self.full(names) ^ rows[0]
        if kind == "and":
            return both(rows, self.full(names))
        if kind == "or":
            return either(rows)
        return self.bound(formula, names, rows[0])

    def bound(self, formula, names, table):
        """The table of a some or an all, from the table of what is within it."""
        within = names_within(formula, names)
        size = self.size(within[:within.index(formula[1])])
        choices = self.having(formula[1], within)
        # All of these have their bits where the name has element 0.
        rows = [(table & chosen) >> (element * size) for element, chosen in enumerate(choices)]
        found = either(rows) if formula[0] == "some" else both(rows, choices[0])
        # Which value a name has outside does not matter where it is bound anew.
        return self.repeated(found, size) if within == names else found

    def of(self, formula, names):
        """The table of a formula within the names."""
        found = []
        # From behind, the tables of those within a formula are made before its own, and lie on top of found.
        for here, within in handed_down(formula, names, names_within)[::-1]:
            if here[0] in ("rel", "same"):
                found.append(self.plain(here, within))
            else:
                rows = [found.pop() for _ in inner(here)]
                found.append(self.made(here, within, rows))
        return found[0]


def names_within(formula, names):
    """The names that what is directly within a formula is within."""
    if formula[0] not in ("some", "all") or formula[1] in names:
        return names
    return (*names, formula[1])


def both(rows, full):
    """The table of all of the rows being true."""
    for row in rows:
        full = full & row
    return full


def either(rows):
    """The table of some of the rows being true."""
    found = 0
    for row in rows:
        found = found | row
    return found


def is_true(structure, formula, values):
    """Whether a formula is true in a structure with the values of its free names."""
    return Tables([structure], values).of(formula, ()) == 1


def all_values(structure, formula, names):
    """The tuples of elements with which, in the place of the names, a formula is true, rising."""
    tables = Tables([structure], {})
    table = tables.of(formula, names)
    return tuple([row for row in all_points(structure[1], len(names)) if (table >> tables.bit(row)) & 1])


def models_among(structures, sentence):
    """Those of some structures of one kind, with as many elements, in which a sentence is true."""
    table = Tables(structures, {}).of(sentence, ())
    return [structure for at, structure in enumerate(structures) if (table >> at) & 1]
