"""Formulas: what stands in them, and the same truth with not only ahead of rel and same.

Texts may give formulas of any rank. So no function here calls itself:
what is still to be looked at waits in a list.
"""

OPPOSITES = {"and": "or", "or": "and", "some": "all", "all": "some"}


def inner(formula):
    """The formulas that stand directly in a formula, from left to right."""
    kind = formula[0]
    if kind in ("and", "or"):
        return formula[1]
    if kind == "not":
        return (formula[1],)
    if kind in ("some", "all"):
        return (formula[2],)
    return ()


def own_names(formula):
    """The names of values that a formula tells itself, not those within it."""
    kind = formula[0]
    if kind == "rel":
        return formula[2]
    if kind == "same":
        return formula[1:]
    if kind in ("some", "all"):
        return (formula[1],)
    return ()


def walk(formula):
    """All formulas that stand in a formula, itself among them, each as often as it stands."""
    found = []
    waiting = [formula]
    while waiting:
        here = waiting.pop()
        found.append(here)
        waiting.extend(inner(here))
    return found


def parts(formula):
    """How many formulas stand in a formula, itself among them."""
    return len(walk(formula))


def names_in(formula):
    """All names of values in a formula, bound ones too, rising."""
    return tuple(sorted({name for part in walk(formula) for name in own_names(part)}))


def handed_down(formula, first, below):
    """The formulas in a formula, from left to right, each ahead of those within it, with what is handed down to it.

    To the formula itself first is handed down, to those directly within another one below(that one, what it has).
    """
    found = []
    waiting = [(formula, first)]
    while waiting:
        here, told = waiting.pop()
        found.append((here, told))
        rows = inner(here)
        if rows:
            handed = below(here, told)
            waiting.extend([(part, handed) for part in rows[::-1]])
    return found


def deeper(formula, depth):
    """How many some and all stand around what is directly within a formula that has so many around it."""
    return depth + 1 if formula[0] in ("some", "all") else depth


def bound_within(formula, bound):
    """The names that are bound directly within a formula, from those that are bound around it."""
    if formula[0] not in ("some", "all") or formula[1] in bound:
        return bound
    return (*bound, formula[1])


def denied_within(formula, denied):
    """Whether the not around what is directly within a formula deny it, from whether they deny the formula."""
    return not denied if formula[0] == "not" else denied


def rank(formula):
    """How many some and all stand within one another at most."""
    return max([depth for _, depth in handed_down(formula, 0, deeper)])


def free(formula):
    """The names of values that stand somewhere unbound, rising."""
    found = []
    for here, bound in handed_down(formula, (), bound_within):
        # A some or an all has a name of its own, too, but binds it.
        if here[0] in ("rel", "same"):
            found.extend([name for name in own_names(here) if name not in bound])
    return tuple(sorted(set(found)))


def turned(formula):
    """A formula with the same truth in which not stands only ahead of rel and same."""
    made = []
    # From behind, the formulas within one are made before it, and lie on top of made, the first one uppermost.
    for here, denied in handed_down(formula, False, denied_within)[::-1]:
        rows = tuple([made.pop() for _ in inner(here)])
        made.append(turned_one(here, denied, rows))
    return made[0]


def turned_one(formula, denied, rows):
    """The formula, or its contrary if it is denied, over rows: those within it, which are turned."""
    kind = formula[0]
    if kind == "not":
        return rows[0]
    if kind in ("rel", "same"):
        return ("not", formula) if denied else formula
    if denied:
        kind = OPPOSITES[kind]
    if kind in ("and", "or"):
        return (kind, rows)
    return (kind, formula[1], rows[0])


def together(kind, rows):
    """The and or the or of rows, in which none stands twice; a row itself if it is the only one."""
    found = []
    for row in rows:
        if row not in found:
            found.append(row)
    return found[0] if len(found) == 1 else (kind, tuple(found))
