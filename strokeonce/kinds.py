"""The kinds of strokes, and the kinds of the strokes that these become.

A sight is (pair, later): the pair of a stroke and of another one that is near
it, and whether the other one comes later. A kind is (letter, sights): a
stroke's letter, and the sights that it has. Sights and kinds are numbered as
they are found; a kind has its sights by their numbers, ascending.
"""

from strokeonce.errors import TooMany
from strokeonce.nearness import farness_nearness
from strokeonce.steps import Steps

MOST_NEAR = 400


class Crowd:
    """The kinds of the strokes of a drawing that grows.

    sights and kinds have those that are found by now, by their numbers.
    """

    def __init__(self, growth):
        self.growth = growth
        self.nearness = farness_nearness(growth)
        self.steps = Steps(self.nearness)
        self.sights = []
        self.kinds = []
        self._sight_numbers = {}
        self._kind_numbers = {}
        self._grown = {}
        self._children = {}
        self._within = {letter: self.sights_within(growth.drawn[letter]) for letter in growth.letters}

    def number_of_sight(self, pair, later):
        sight = (pair, later)
        if sight not in self._sight_numbers:
            self._sight_numbers[sight] = len(self.sights)
            self.sights.append(sight)
        return self._sight_numbers[sight]

    def number_of_kind(self, letter, row):
        """The number of the kind of a letter with the sights of a row."""
        if len(row) > MOST_NEAR:
            raise TooMany(MOST_NEAR)
        kind = (letter, tuple(sorted(row)))
        if kind not in self._kind_numbers:
            self._kind_numbers[kind] = len(self.kinds)
            self.kinds.append(kind)
        return self._kind_numbers[kind]

    def sights_of(self, rows, number):
        """The sights that one of some strokes, all of them with their anchors, has of the other ones."""
        found = [(pair, False) for pair in self.nearness.near_to(rows[number], rows[:number])]
        found += [(pair, True) for pair in self.nearness.near_to(rows[number], rows[number + 1:])]
        return [self.number_of_sight(pair, later) for pair, later in found]

    def sights_within(self, strokes):
        """For each stroke of a drawing its sights."""
        rows = self.nearness.anchored(strokes)
        return [self.sights_of(rows, number) for number in range(len(rows))]

    def kinds_of(self, strokes, rows):
        """The kinds of strokes that have the sights of some rows, in order."""
        return [self.number_of_kind(stroke[3], row) for stroke, row in zip(strokes, rows)]

    def kinds_within(self, strokes):
        """The kinds of the strokes of a drawing, in order."""
        return self.kinds_of(strokes, self.sights_within(strokes))

    def grown(self, sight):
        """What a sight becomes: for strokes that its first one becomes, by their numbers, the sights that they have."""
        if sight not in self._grown:
            pair, later = self.sights[sight]
            halves = self.steps.numbered_halves(pair)
            self._grown[sight] = [(number, [self.number_of_sight(whole, later) for whole in self.steps.wholes(half)])
                                  for number, half in halves]
        return self._grown[sight]

    def children(self, kind):
        """The kinds of the strokes that a stroke of a kind becomes, in order."""
        if kind not in self._children:
            letter, sights = self.kinds[kind]
            rows = [list(row) for row in self._within[letter]]
            for sight in sights:
                for number, seen in self.grown(sight):
                    rows[number].extend(seen)
            self._children[kind] = self.kinds_of(self.growth.drawn[letter], rows)
        return self._children[kind]
