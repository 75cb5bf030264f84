"""Maps that keep relations, and plain sentences, which are true wherever a map leads from where they are."""

from finitestructures.checks import is_formula
from finitestructures.formulas import free
from finitestructures.images import due_rows, is_kept, is_map, least_leading, led
from finitestructures.truth import is_true


def least_map(structure, other):
    """The least map from a structure to another one, None if there is none."""
    return least_leading(structure, other)


def count_maps(structure, other):
    """How many maps there are from a structure to another one.

    Images of elements that stand in no row still to come do not matter any more,
    and are forgotten. So only the others are told apart, with how often each comes.
    """
    due = due_rows(structure, other)
    last = last_uses(due)
    counts = {(): 1}
    for at, rows in enumerate(due):
        needed = [use > at for use in last[:at + 1]]
        counts = longer_counts(counts, rows, other[1], needed)
    return sum(counts.values())


def longer_counts(counts, due, many, needed):
    """How often images come with one more, of so many, behind that keeps what is due; None where none is needed."""
    found = {}
    for images, count in counts.items():
        for one in range(many):
            longer = (*images, one)
            if is_kept(due, longer):
                key = tuple([image if wanted else None for image, wanted in zip(longer, needed)])
                found[key] = found.get(key, 0) + count
    return found


def last_uses(due):
    """For each element the greatest one with which it stands in a row, -1 if there is none."""
    found = [-1 for _ in due]
    for at, rows in enumerate(due):
        for row, _ in rows:
            for element in row:
                found[element] = at
    return found


def sentence_of(structure):
    """The plain sentence that tells all rows of a structure."""
    names = [f"e{element}" for element in range(structure[1])]
    told = [("rel", relation, led(row, names)) for relation, _, rows in structure[2] for row in rows]
    formula = ("and", tuple(told))
    for name in names[::-1]:
        formula = ("some", name, formula)
    return formula


def decide_map(structure, other):
    """A paper that holds the least map, or else the sentence of the first structure."""
    images = least_map(structure, other)
    if images is None:
        return ("sentence", sentence_of(structure))
    return ("map", images)


def is_plain(formula):
    """Whether a formula is a plain sentence."""
    here = formula
    while here[0] == "some":
        here = here[2]
    if here[0] != "and" or not all([row[0] in ("rel", "same") for row in here[1]]):
        return False
    return free(formula) == ()


def judge_map(structure, other, paper):
    """Whether a value is a right paper of decide_map, whoever made it."""
    if type(paper) is not tuple or len(paper) != 2 or type(paper[0]) is not str:
        return False
    kind, told = paper
    if kind == "map":
        return is_map(structure, other, told)
    if kind != "sentence" or not is_formula(told, structure) or not is_plain(told):
        return False
    return is_true(structure, told, {}) and not is_true(other, told, {})
