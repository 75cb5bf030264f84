"""Truth of formulas in structures.

A formula within names of values has a table: a whole number each bit of which
stands for elements in the place of all these names, and is set where the
formula is true of them. With n elements and names x, y, z the bit is
x + y * n + z * n * n. So each not, and, or, some and all takes a few steps,
however many values the names around it may have.
"""

from finitestructures.formulas import handed_down, inner
from finitestructures.points import all_points


class Tables:
    """The tables of formulas in a structure; names that are not within have a fixed value."""

    def __init__(self, structure, fixed):
        self.many = structure[1]
        self.rows = {name: rows for name, _, rows in structure[2]}
        self.fixed = fixed
        self.sizes = [1]
        self.known = {}

    def size(self, names):
        """How many bits a table within the names has."""
        while len(self.sizes) <= len(names):
            self.sizes.append(self.sizes[-1] * self.many)
        return self.sizes[len(names)]

    def full(self, names):
        """The table within the names of what is always true."""
        return (1 << self.size(names)) - 1

    def bit(self, row):
        """The bit that stands for the elements of the row, in the place of as many names."""
        return sum([element * self.size(row[:at]) for at, element in enumerate(row)])

    def having(self, name, names):
        """For each element, the table within the names of this name having it as its value."""
        if name not in names:
            full = self.full(names)
            return [full if element == self.fixed[name] else 0 for element in range(self.many)]
        # The innermost of alike names is the one that counts.
        at = len(names) - 1 - names[::-1].index(name)
        full = self.full(names[:at])
        found = [full << (element * self.size(names[:at])) for element in range(self.many)]
        for place in range(at + 1, len(names)):
            found = [self.repeated(table, names[:place]) for table in found]
        return found

    def repeated(self, table, names):
        """The table of the same within the names and one more behind them."""
        size = self.size(names)
        return sum([table << (element * size) for element in range(self.many)])

    def parted(self, table, names):
        """For each element, the table within the names of the same with it as the value of the one more name."""
        size = self.size(names)
        full = self.full(names)
        return [(table >> (element * size)) & full for element in range(self.many)]

    def plain(self, formula, names):
        """The table of a rel or a same, which is kept: it may stand in a formula many times."""
        key = (formula, names)
        if key not in self.known:
            self.known[key] = self.looked_up(formula, names)
        return self.known[key]

    def looked_up(self, formula, names):
        """The table of a rel or a same."""
        if formula[0] == "same":
            used = formula[1:]
            rows = [(element, element) for element in range(self.many)]
        else:
            used = formula[2]
            rows = self.rows[formula[1]]
        choices = [self.having(name, names) for name in used]
        found = 0
        for row in rows:
            found = found | both([tables[element] for tables, element in zip(choices, row)], self.full(names))
        return found

    def made(self, formula, names, rows):
        """The table of a formula that is no rel and no same, from the tables of those directly within it."""
        kind = formula[0]
        full = self.full(names)
        if kind == "not":
            return full ^ rows[0]
        if kind in ("some", "all"):
            rows = self.parted(rows[0], names)
        if kind in ("and", "all"):
            return both(rows, full)
        return either(rows)

    def of(self, formula, names):
        """The table of a formula within the names."""
        found = []
        # From behind, the tables of those within a formula are made before its own, and lie on top of found.
        for here, within in handed_down(formula, names, names_within)[::-1]:
            if here[0] in ("rel", "same"):
                found.append(self.plain(here, within))
            else:
                rows = [found.pop() for _ in inner(here)]
                found.append(self.made(here, within, rows))
        return found[0]


def names_within(formula, names):
    """The names that what is directly within a formula is within; alike ones, too, of which the last one counts."""
    return (*names, formula[1]) if formula[0] in ("some", "all") else names


def both(rows, full):
    """The table of all of the rows being true."""
    for row in rows:
        full = full & row
    return full


def either(rows):
    """The table of some of the rows being true."""
    found = 0
    for row in rows:
        found = found | row
    return found


def is_true(structure, formula, values):
    """Whether a formula is true in a structure with the values of its free names."""
    return Tables(structure, values).of(formula, ()) == 1


def all_values(structure, formula, names):
    """The tuples of elements with which, in the place of the names, a formula is true, rising."""
    tables = Tables(structure, {})
    table = tables.of(formula, names)
    return tuple([row for row in all_points(structure[1], len(names)) if (table >> tables.bit(row)) & 1])
