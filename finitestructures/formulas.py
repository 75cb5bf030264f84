"""Formulas: what stands in them, and the same truth with not only ahead of rel and same.

Texts may give formulas of any rank. So no function here calls itself:
what is still to be looked at waits in a list.
"""

OPPOSITES = {"and": "or", "or": "and", "some": "all", "all": "some"}


def inner(formula):
    """The formulas that stand directly in a formula, from left to right."""
    kind = formula[0]
    if kind in ("and", "or"):
        return formula[1]
    if kind == "not":
        return (formula[1],)
    if kind in ("some", "all"):
        return (formula[2],)
    return ()


def own_names(formula):
    """The names of values that a formula tells itself, not those within it."""
    kind = formula[0]
    if kind == "rel":
        return formula[2]
    if kind == "same":
        return formula[1:]
    if kind in ("some", "all"):
        return (formula[1],)
    return ()


def walk(formula):
    """All formulas that stand in a formula, itself among them, each as often as it stands."""
    found = []
    waiting = [formula]
    while waiting:
        here = waiting.pop()
        found.append(here)
        waiting.extend(inner(here))
    return found


def parts(formula):
    """How many formulas stand in a formula, itself among them."""
    return len(walk(formula))


def names_in(formula):
    """All names of values in a formula, bound ones too, rising."""
    return tuple(sorted({name for part in walk(formula) for name in own_names(part)}))


def rank(formula):
    """How many some and all stand within one another at most."""
    most = 0
    waiting = [(formula, 0)]
    while waiting:
        here, depth = waiting.pop()
        if here[0] in ("some", "all"):
            depth = depth + 1
            most = max(most, depth)
        for part in inner(here):
            waiting.append((part, depth))
    return most


def free(formula):
    """The names of values that stand somewhere unbound, rising."""
    found = []
    waiting = [(formula, ())]
    while waiting:
        here, bound = waiting.pop()
        if here[0] in ("some", "all"):
            bound = (*bound, here[1])
        found.extend([name for name in own_names(here) if name not in bound])
        for part in inner(here):
            waiting.append((part, bound))
    return tuple(sorted(set(found)))


def turned(formula):
    """A formula with the same truth in which not stands only ahead of rel and same."""
    made = []
    # From behind, the formulas within one are made before it, and lie on top of made, the first one uppermost.
    for here, denied in signed(formula)[::-1]:
        rows = tuple([made.pop() for _ in inner(here)])
        made.append(turned_one(here, denied, rows))
    return made[0]


def signed(formula):
    """The formulas in a formula, each ahead of those within it, with whether it is denied by the not around it."""
    found = []
    waiting = [(formula, False)]
    while waiting:
        here, denied = waiting.pop()
        found.append((here, denied))
        below = not denied if here[0] == "not" else denied
        for part in inner(here)[::-1]:
            waiting.append((part, below))
    return found


def turned_one(formula, denied, rows):
    """The formula, or its contrary if it is denied, over rows: those within it, which are turned."""
    kind = formula[0]
    if kind == "not":
        return rows[0]
    if kind in ("rel", "same"):
        return ("not", formula) if denied else formula
    if denied:
        kind = OPPOSITES[kind]
    if kind in ("and", "or"):
        return (kind, rows)
    return (kind, formula[1], rows[0])
