"""Plain second ways, by recursion over the words of the document, for the tests to compare with."""

from functools import lru_cache


def inside(formula):
    """The formulas directly within a formula."""
    if formula[0] in ("and", "or"):
        return list(formula[1])
    return [part for part in formula[1:] if isinstance(part, tuple) and formula[0] in ("not", "some", "all")]


def everything(formula):
    """All formulas in a formula, each as often as it stands."""
    return [formula] + [part for row in inside(formula) for part in everything(row)]


def plain_rank(formula):
    below = max([plain_rank(row) for row in inside(formula)], default=0)
    return below + (formula[0] in ("some", "all"))


def plain_free(formula):
    """The set of the free names."""
    if formula[0] == "rel":
        return set(formula[2])
    if formula[0] == "same":
        return {formula[1], formula[2]}
    found = set().union(*[plain_free(row) for row in inside(formula)])
    return found - {formula[1]} if formula[0] in ("some", "all") else found


def plain_names(formula):
    """The set of all names of values."""
    own = {formula[1]} if formula[0] in ("some", "all") else plain_free(formula) if not inside(formula) else set()
    return own.union(*[plain_names(row) for row in inside(formula)])


def holds(structure, formula, values):
    """Whether a formula is true in a structure with values."""
    kind = formula[0]
    if kind == "rel":
        rows = {name: rows for name, _, rows in structure[2]}[formula[1]]
        return tuple(values[name] for name in formula[2]) in rows
    if kind == "same":
        return values[formula[1]] == values[formula[2]]
    if kind == "not":
        return not holds(structure, formula[1], values)
    if kind == "and":
        return all([holds(structure, row, values) for row in formula[1]])
    if kind == "or":
        return any([holds(structure, row, values) for row in formula[1]])
    told = [holds(structure, formula[2], {**values, formula[1]: k}) for k in range(structure[1])]
    return any(told) if kind == "some" else all(told)


def collapsed(formula):
    """The formula with each and and or of one row taken as its row."""
    kind = formula[0]
    if kind in ("and", "or"):
        rows = tuple(collapsed(row) for row in formula[1])
        return rows[0] if len(rows) == 1 else (kind, rows)
    if kind == "not":
        return ("not", collapsed(formula[1]))
    if kind in ("some", "all"):
        return (kind, formula[1], collapsed(formula[2]))
    return formula


def plain_text(formula):
    """The text of a formula that has no and or or of one row."""
    kind = formula[0]
    if kind == "rel":
        return formula[1] + "(" + ",".join(formula[2]) + ")"
    if kind == "same":
        return formula[1] + "=" + formula[2]
    if kind == "not":
        return "~" + row_text(formula[1])
    if kind in ("some", "all"):
        return kind + " " + formula[1] + ": " + plain_text(formula[2])
    if formula[1] == ():
        return {"and": "true", "or": "false"}[kind]
    return {"and": " & ", "or": " | "}[kind].join(row_text(row) for row in formula[1])


def row_text(formula):
    bare = formula[0] in ("rel", "same", "not") or formula[1] == ()
    return plain_text(formula) if bare else "(" + plain_text(formula) + ")"


def crowded_text(formula):
    """A text of a formula with parentheses around each formula in it."""
    kind = formula[0]
    if kind == "not":
        return "(~" + crowded_text(formula[1]) + ")"
    if kind in ("some", "all"):
        return "(" + kind + " " + formula[1] + ": " + crowded_text(formula[2]) + ")"
    if kind in ("and", "or") and formula[1]:
        return "(" + {"and": "&", "or": "|"}[kind].join(crowded_text(row) for row in formula[1]) + ")"
    return "(" + plain_text(formula) + ")"


# The texts of formulas as a grammar over single signs: a row of alternatives for each
# name, each alternative a tuple of names and signs; "a-z" and the like stand for one sign.
GRAMMAR = {
    "text": (("spaces", "whole"),),
    "spaces": ((), (" ", "spaces")),
    "whole": (
        (*"some ", "spaces", "name", "spaces", ":", "spaces", "whole"),
        (*"all ", "spaces", "name", "spaces", ":", "spaces", "whole"),
        ("unit",),
        ("unit", "ands"),
        ("unit", "ors"),
    ),
    "ands": (("&", "spaces", "unit"), ("&", "spaces", "unit", "ands")),
    "ors": (("|", "spaces", "unit"), ("|", "spaces", "unit", "ors")),
    "unit": (
        ("~", "spaces", "unit"),
        ("(", "spaces", "whole", ")", "spaces"),
        (*"true", "spaces"),
        (*"false", "spaces"),
        ("name", "spaces", "=", "spaces", "name", "spaces"),
        ("A-Z", "spaces", "(", "spaces", "names", ")", "spaces"),
    ),
    "names": (("name", "spaces"), ("name", "spaces", ",", "spaces", "name", "spaces")),
    "name": (("a-z",), ("a-z", "0-9")),
}


@lru_cache(maxsize=None)
def opened(ways):
    """All ways to go on, each a tuple that is empty or begins with a sign."""
    done = set()
    waiting = list(ways)
    while waiting:
        way = waiting.pop()
        if way and way[0] in GRAMMAR:
            waiting.extend([row + way[1:] for row in GRAMMAR[way[0]]])
        else:
            done.add(way)
    return frozenset(done)


@lru_cache(maxsize=None)
def after(ways, sign):
    """The ways to go on behind a sign."""
    return opened(frozenset(way[1:] for way in ways if way and fits(way[0], sign)))


def fits(wanted, sign):
    if len(wanted) == 3:
        return wanted[0] <= sign <= wanted[2]
    return wanted == sign


def start():
    return opened(frozenset({("text",)}))


def fault_place(text):
    """The first sign with which no formula goes on, the length if the text ends too early, None if it is one."""
    ways = start()
    for place, sign in enumerate(text):
        ways = after(ways, sign)
        if not ways:
            return place
    return None if () in ways else len(text)
