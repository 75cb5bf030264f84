"""Games with few pebbles, which may be put elsewhere, and sentences with as few names of values."""

from finitestructures.games import Game, met
from finitestructures.isomorphisms import isomorphism
from finitestructures.points import point_name
from finitestructures.strategies import is_answered, is_row, plain_parting, told_by_pick


def left_out(row):
    """The tuples that leave out one place of a tuple."""
    return [row[:at] + row[at + 1:] for at in range(len(row))]


class Pebbles:
    """A game, a number of pebbles, and which meetings of points are lost within how many rounds.

    As in games, all depends only on which element meets which one. A round puts a
    pebble on each structure; if all lie there already, one of each is taken up first.
    """

    def __init__(self, game, pebbles):
        self.game = game
        self.pebbles = pebbles
        self.pairs = [pair for picked in range(game.many[0]) for pair in game.replies(0, picked)]
        self.kept = {pairs: True for pairs in self.fair_meetings()}
        self.lost = {}
        self.known_sentences = {}
        rounds = 1
        while self.take_lost(rounds):
            rounds += 1

    def fair_meetings(self):
        """All meetings of no more pairs than pebbles that are fair."""
        found = [()]
        last = [()]
        for _ in range(self.pebbles):
            longer = [(*row, pair) for row in last for pair in self.pairs if row[-1:] < (pair,)]
            last = [row for row in longer if self.game.fair(row)]
            found.extend(last)
        return found

    def take_lost(self, rounds):
        """Take away the meetings that are lost within so many rounds and no fewer; whether there were any."""
        waiting = [pairs for pairs in self.kept if len(pairs) < self.pebbles]
        failing = {pairs: True for pairs in waiting if not self.holds_out(pairs)}
        gone = []
        for pairs in self.kept:
            ways = [pairs] if len(pairs) < self.pebbles else left_out(pairs)
            if any(way in failing for way in ways):
                gone.append(pairs)
        for pairs in gone:
            del self.kept[pairs]
            self.lost[pairs] = rounds
        return len(gone) > 0

    def holds_out(self, pairs):
        """Whether each pick has a reply with which the meeting becomes one that is kept."""
        for side, picked in self.game.picks():
            if not any(met(pairs, pair) in self.kept for pair in self.game.replies(side, picked)):
                return False
        return True

    def is_lost(self, pairs, rounds):
        """Whether a meeting of no more pairs than pebbles is lost within so many rounds."""
        if not self.game.fair(pairs):
            return True
        return pairs in self.lost and self.lost[pairs] <= rounds

    def are_alike(self):
        """Whether the structures are alike with the pebbles."""
        return () in self.kept

    def system(self):
        """All positions that are kept, rising."""
        found = [()]
        last = [()]
        for _ in range(self.pebbles):
            longer = [(*row, pair) for row in last for pair in self.pairs]
            last = [row for row in longer if met(row, row[-1]) in self.kept]
            found.extend(last)
        return tuple(sorted([position(row) for row in found]))

    def sentence(self, row):
        """A formula that parts a position, told as a row of pairs, that is lost; its free names are of their places."""
        if row not in self.known_sentences:
            self.known_sentences[row] = self.new_sentence(row)
        return self.known_sentences[row]

    def new_sentence(self, row):
        """The formula that sentence keeps, of the least rank."""
        pairs = tuple(sorted(row))
        if not self.game.fair(pairs):
            points, others = position(row)
            return plain_parting(self.game, points, others)
        place, side, replies = self.lost_pick(row, self.lost[pairs] - 1)
        rows = [self.sentence(put(row, place, pair)) for pair in replies]
        return told_by_pick(side, point_name(place), rows)

    def lost_pick(self, row, rounds):
        """A place for a pebble, the structure of a pick, and all replies to it, which are lost within the rounds."""
        places = [len(row)] if len(row) < self.pebbles else list(range(len(row)))
        for place in places:
            rest = row[:place] + row[place + 1:]
            for side, picked in self.game.picks():
                replies = self.game.replies(side, picked)
                if all([self.is_lost(met(rest, pair), rounds) for pair in replies]):
                    return place, side, replies
        return None


def put(row, place, pair):
    """A row of pairs with a pair at a place, which may be one behind its end."""
    return row[:place] + (pair,) + row[place + 1:]


def position(row):
    """The points of a row of pairs."""
    return (tuple([x for x, _ in row]), tuple([y for _, y in row]))


def greatest_system(structure, other, pebbles):
    """The system that has all others, None if there is none."""
    play = Pebbles(Game(structure, other), pebbles)
    return play.system() if play.are_alike() else None


def part(structure, other, pebbles):
    """A paper that holds a system, or else a sentence with as few names of values that parts the structures."""
    play = Pebbles(Game(structure, other), pebbles)
    if play.are_alike():
        return ("system", play.system())
    return ("sentence", play.sentence(()))


def is_system(structure, other, pebbles, rows):
    """Whether a value is a system."""
    game = Game(structure, other)
    if not is_row(game, rows):
        return False
    found = {row: True for row in rows}
    if ((), ()) not in found or max([len(points) for points, _ in rows]) > pebbles:
        return False
    for points, others in rows:
        if not all([less in found for less in zip(left_out(points), left_out(others))]):
            return False
    return is_answered(game, [row for row in rows if len(row[0]) < pebbles], rows)


def fewest_pebbles(structure, other):
    """The least number of pebbles, from 1 on, with which structures are not alike, None if they are isomorphic."""
    if isomorphism(structure, other) is not None:
        return None
    game = Game(structure, other)
    pebbles = 1
    while Pebbles(game, pebbles).are_alike():
        pebbles += 1
    return pebbles
