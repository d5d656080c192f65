"""The kinds of strokes, and the kinds of the strokes that these become.

A sight is (pair, later): the pair of a stroke and of another one that is near
it, and whether the other one comes later. A kind is (letter, sights): a
stroke's letter, and the sights that it has. Sights and kinds are numbered as
they are found; a kind has its sights by their numbers, ascending.
"""

from strokeonce.errors import TooMany
from strokeonce.pairs import pair_of

MOST_NEAR = 400


class Crowd:
    """The kinds of the strokes of a drawing that grows.

    sights and kinds have those that are found by now, by their numbers.
    """

    def __init__(self, growth):
        self.growth = growth
        self.sights = []
        self.kinds = []
        self._sight_numbers = {}
        self._kind_numbers = {}
        self._grown = {}
        self._children = {}
        self._within = {letter: self.sights_within(growth.drawn[letter]) for letter in growth.letters}

    def number_of_sight(self, pair, later):
        sight = (pair, later)
        if sight not in self._sight_numbers:
            self._sight_numbers[sight] = len(self.sights)
            self.sights.append(sight)
        return self._sight_numbers[sight]

    def number_of_kind(self, letter, row):
        """The number of the kind of a letter with the sights of a row."""
        if len(row) > MOST_NEAR:
            raise TooMany(MOST_NEAR)
        kind = (letter, tuple(sorted(row)))
        if kind not in self._kind_numbers:
            self._kind_numbers[kind] = len(self.kinds)
            self.kinds.append(kind)
        return self._kind_numbers[kind]

    def sights_of(self, strokes, number):
        """The sights that one of some strokes has of the other ones."""
        pairs = [pair_of(strokes[number], stroke) for stroke in strokes]
        return [self.number_of_sight(pair, other > number) for other, pair in enumerate(pairs)
                if other != number and self.growth.is_near(pair[0], pair[1])]

    def sights_within(self, strokes):
        """For each stroke of a drawing its sights."""
        return [self.sights_of(strokes, number) for number in range(len(strokes))]

    def kinds_of(self, strokes, rows):
        """The kinds of strokes that have the sights of some rows, in order."""
        return [self.number_of_kind(stroke[3], row) for stroke, row in zip(strokes, rows)]

    def kinds_within(self, strokes):
        """The kinds of the strokes of a drawing, in order."""
        return self.kinds_of(strokes, self.sights_within(strokes))

    def grown(self, sight):
        """What a sight becomes: for strokes that its first one becomes, by their numbers, the sights that they have."""
        if sight not in self._grown:
            pair, later = self.sights[sight]
            halves = self.growth.numbered_halves(pair)
            self._grown[sight] = [(number, [self.number_of_sight(whole, later) for whole in self.growth.wholes(half)])
                                  for number, half in halves]
        return self._grown[sight]

    def children(self, kind):
        """The kinds of the strokes that a stroke of a kind becomes, in order."""
        if kind not in self._children:
            letter, sights = self.kinds[kind]
            rows = [list(row) for row in self._within[letter]]
            for sight in sights:
                for number, seen in self.grown(sight):
                    rows[number].extend(seen)
            self._children[kind] = self.kinds_of(self.growth.drawn[letter], rows)
        return self._children[kind]
