"""Games on two structures: whether points of them can be told apart by picking elements."""

from finitestructures.points import rows_of


def meeting(points, others):
    """The pairs of elements that stand at the same places, rising, none twice."""
    return tuple(sorted(set(list(zip(points, others)))))


def met(pairs, pair):
    """The meeting with one more pair."""
    return tuple(sorted(set([*pairs, pair])))


def is_one_to_one(pairs):
    """Whether no two of the pairs, which are unlike, share an element."""
    return len({x for x, _ in pairs}) == len(pairs) == len({y for _, y in pairs})


class Game:
    """Two structures, and what has been found out of points of them.

    Whether points are alike depends only on which element meets which one, not on
    where and how often. So the methods take a meeting in the place of two points.
    """

    def __init__(self, structure, other):
        self.structure = structure
        self.other = other
        self.many = (structure[1], other[1])
        self.relations = [
            (places, {row: True for row in rows}, {row: True for row in opposite[2]})
            for (_, places, rows), opposite in zip(structure[2], other[2])
        ]
        self.known_fair = {}
        self.known_alike = {}

    def fair(self, pairs):
        """Whether the points that meet so are fair."""
        if pairs not in self.known_fair:
            self.known_fair[pairs] = is_one_to_one(pairs) and self.keeps(pairs)
        return self.known_fair[pairs]

    def keeps(self, pairs):
        """Whether each relation holds of first elements of pairs exactly if it holds of the second ones."""
        for places, rows, others in self.relations:
            for chosen in rows_of(pairs, places):
                one = tuple([x for x, _ in chosen])
                two = tuple([y for _, y in chosen])
                if (one in rows) != (two in others):
                    return False
        return True

    def alike(self, pairs, rounds):
        """Whether the points that meet so are alike for the rounds."""
        if not self.fair(pairs):
            return False
        if rounds == 0:
            return True
        key = (pairs, rounds)
        if key not in self.known_alike:
            found = [self.reply(pairs, side, picked, rounds - 1) for side, picked in self.picks()]
            self.known_alike[key] = None not in found
        return self.known_alike[key]

    def picks(self):
        """All that can be picked: 0 or 1 for the structure, and the element."""
        return [(side, picked) for side in (0, 1) for picked in range(self.many[side])]

    def replies(self, side, picked):
        """All pairs that the element picked in the structure may become."""
        answers = range(self.many[1 - side])
        if side == 0:
            return [(picked, answer) for answer in answers]
        return [(answer, picked) for answer in answers]

    def reply(self, pairs, side, picked, rounds):
        """The least pair with the element picked with which points stay alike for the rounds, None if there is none."""
        for pair in self.replies(side, picked):
            if self.alike(met(pairs, pair), rounds):
                return pair
        return None

    def least_rounds(self, pairs):
        """The least number of rounds for which the points that meet so are not alike, None if there is none."""
        # Who picks all elements of the smaller structure, and one more of the greater one, has left nothing to find.
        for rounds in range(min(self.many) + 2):
            if not self.alike(pairs, rounds):
                return rounds
        return None


def is_fair(structure, other, points, others):
    """Whether a pair of points is fair."""
    return Game(structure, other).fair(meeting(points, others))


def alike(structure, other, points, others, rounds):
    """Whether points are alike for the rounds."""
    return Game(structure, other).alike(meeting(points, others), rounds)


def least_rounds(structure, other, points, others):
    """The least number of rounds for which points are not alike, None if they are alike for all."""
    return Game(structure, other).least_rounds(meeting(points, others))
