"""Papers on games: a strategy of answers, or a formula that is true in the first structure and not in the second."""

from finitestructures.checks import is_formula, is_points, is_rising
from finitestructures.formulas import free, rank, together
from finitestructures.games import Game, meeting
from finitestructures.points import last_atoms, point_name, point_names, point_values
from finitestructures.truth import is_true


def decide(structure, other, points, others, rounds):
    """A paper that holds a strategy for the rounds, or a parting formula of a rank of at most the rounds."""
    game = Game(structure, other)
    if game.alike(meeting(points, others), rounds):
        return ("strategy", strategy(game, points, others, rounds))
    return ("formula", parting(game, points, others))


def strategy(game, points, others, rounds):
    """The rows of a strategy for points that are alike for the rounds."""
    rows = [((points, others),)]
    for left in range(rounds - 1, -1, -1):
        rows.append(row_below(game, rows[-1], left))
    return tuple(rows[::-1])


def row_below(game, row, left):
    """The pairs that those of a row become, whatever is picked, with so many rounds left behind that."""
    found = set()
    for points, others in row:
        for side, picked in game.picks():
            one, two = game.reply(meeting(points, others), side, picked, left)
            found.add(((*points, one), (*others, two)))
    return tuple(sorted(found))


def parting(game, points, others):
    """A parting formula, of the least rank, of points that are not alike for some number of rounds."""
    pairs = meeting(points, others)
    rounds = game.least_rounds(pairs)
    if rounds == 0:
        return plain_parting(game, points, others)
    lost = [pick for pick in game.picks() if game.reply(pairs, pick[0], pick[1], rounds - 1) is None]
    side, picked = lost[0]
    rows = [parting(game, (*points, one), (*others, two)) for one, two in game.replies(side, picked)]
    return told_by_pick(side, point_name(len(points)), rows)


def told_by_pick(side, name, rows):
    """A parting formula from those of all replies to what is picked in a structure, 0 or 1, under the name."""
    # In order, so that formulas of unlike replies that tell the same are the same.
    rows = sorted(rows)
    if side == 0:
        return ("some", name, together("and", rows))
    return ("all", name, together("or", rows))


def plain_parting(game, points, others):
    """A rel or a same, or one behind a not, that parts points that are not fair."""
    # What comes behind fair points differs in its last point, so this is looked at first.
    for many in range(len(points), 0, -1):
        for atom in last_atoms(game.structure, many):
            here = is_true(game.structure, atom, point_values(points))
            if here != is_true(game.other, atom, point_values(others)):
                return atom if here else ("not", atom)
    return None


def is_strategy(structure, other, points, others, rows):
    """Whether a value is the rows of a strategy that has the pair in its last row."""
    game = Game(structure, other)
    if type(rows) is not tuple or not rows or not all(is_row(game, row) for row in rows):
        return False
    if (points, others) not in rows[-1]:
        return False
    return all(is_answered(game, rows[at + 1], rows[at]) for at in range(len(rows) - 1))


def is_row(game, value):
    """Whether a value is a rising tuple of fair pairs of points."""
    if type(value) is not tuple or not all(is_pair(game.many, pair) for pair in value):
        return False
    return is_rising(value) and all(game.fair(meeting(points, others)) for points, others in value)


def is_pair(many, value):
    """Whether a value is a pair of points of two structures that have so many elements, as many of both."""
    if type(value) is not tuple or len(value) != 2:
        return False
    points, others = value
    return is_points(points, many[0]) and is_points(others, many[1]) and len(points) == len(others)


def is_answered(game, row, below):
    """Whether each pair of a row has, for each element that may be picked, a pair in the row below."""
    answered = set()
    for points, others in below:
        if points:
            answered.add((points[:-1], others[:-1], 0, points[-1]))
            answered.add((points[:-1], others[:-1], 1, others[-1]))
    wanted = [(*pair, *pick) for pair in row for pick in game.picks()]
    return all([pick in answered for pick in wanted])


def judge(structure, other, points, others, rounds, paper):
    """Whether a value is a right paper of decide."""
    if not is_pair((structure[1], other[1]), (points, others)):
        return False
    if type(paper) is not tuple or len(paper) != 2 or type(paper[0]) is not str:
        return False
    kind, told = paper
    if kind == "strategy":
        return is_strategy(structure, other, points, others, told) and len(told) == rounds + 1
    return kind == "formula" and is_parting(structure, other, points, others, rounds, told)


def is_parting(structure, other, points, others, rounds, value):
    """Whether a value is a parting formula of a rank of at most the rounds."""
    if not is_formula(value, structure) or rank(value) > rounds:
        return False
    names = point_names(len(points))
    if not all(name in names for name in free(value)):
        return False
    return is_true(structure, value, point_values(points)) and not is_true(other, value, point_values(others))
