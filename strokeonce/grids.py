"""Near pairs as marks on grids, so that many of them grow at once.

A grid is a whole number. Each figure 1 that it has in twos is a mark, and each
place (x, y) has an index there: x * width + y and a constant. So to move all
marks is to shift the number. The grid of (letter, turn, other) has a mark where
the second stroke of a pair begins, for all pairs that have these three. Pairs
are told as a dict of such grids, or of lists of the indexes of their marks.

The two steps of steps.py are gone here, too. The constant is greater for
half-grown pairs than for pairs, and greater again for ways that have just been
multiplied, as numbers are shifted to the right only. The width is such that
what leaves a row on one side comes into the next one beyond all places that are
asked for.
"""

from strokeonce.nearness import greatest_side, rows_of_disc
from strokeonce.paths import STEPS, rotate

# A grid of many marks and figures is put together from parts, of so many figures each.
MANY_MARKS = 16
MANY_FIGURES = 8192
PART = 4096


def put_marks(grids, held):
    """Put the marks of grids into those that are held."""
    for key, grid in grids.items():
        held[key] = held.get(key, 0) | grid


def without(grids, held):
    """The marks of grids that are not held, for each key that has some."""
    fresh = {}
    for key, grid in grids.items():
        left = grid & ~held.get(key, 0)
        if left:
            fresh[key] = left
    return fresh


def grid_of(indexes):
    """The grid that has marks at indexes, each of which is there once."""
    if len(indexes) < MANY_MARKS or max(indexes) < MANY_FIGURES:
        return sum([1 << index for index in indexes])
    # Adding up long numbers, one for each mark, would take long.
    parts = [0] * (max(indexes) // PART + 1)
    for index in indexes:
        parts[index // PART] += 1 << index % PART
    return sum([part << number * PART for number, part in enumerate(parts)])


def marks_of(grid):
    """The indexes of the marks of a grid."""
    figures = f"{grid:b}"
    index = len(figures)
    found = []
    for gap in figures.split("1")[1:]:
        index -= 1
        found.append(index)
        index -= len(gap)
    return found


class Field:
    """The grids for the near pairs of a measure, and how they grow."""

    def __init__(self, nearness):
        growth = nearness.growth
        root = growth.root
        self.side = greatest_side(nearness.discs, 1)
        half_side = greatest_side(nearness.half_discs, 1)
        # No near pair's way is longer than this when it is multiplied.
        longest = greatest_side(nearness.discs, growth.norm)
        self.width = longest + root + half_side + 1
        # So far from the corner that all indexes and all shifts are 0 or more.
        half_corner = max(half_side, self.side + root)
        way_corner = max(longest, half_corner + root)
        self.origin = self.code(self.side, self.side)
        self.half_origin = self.code(half_corner, half_corner)
        self.way_origin = self.code(way_corner, way_corner)
        self.near = self.grids_of_discs(nearness.discs, self.origin)
        self.half_near = self.grids_of_discs(nearness.half_discs, self.half_origin)
        self.firsts = {letter: self.shifts_of_firsts(strokes) for letter, strokes in growth.firsts.items()}
        self.seconds = {key: self.shifts_of_seconds(strokes) for key, strokes in growth.seconds.items()}
        headings = sorted({heading for rows in self.firsts.values() for heading, _ in rows})
        self.multiplied = {heading: self.multiplied_indexes(growth.multiple, heading) for heading in headings}

    def code(self, x, y):
        return x * self.width + y

    def grids_of_discs(self, discs, origin):
        grids = {}
        for disc in discs:
            if disc not in grids:
                grids[disc] = sum([((1 << (high - low + 1)) - 1) << (origin + self.code(x, low))
                                   for x, low, high in rows_of_disc(disc)])
        return [grids[disc] for disc in discs]

    def shifts_of_firsts(self, strokes):
        """For each heading of a word's strokes, seen by themselves, a shift and a letter for each of these."""
        least = self.way_origin - self.half_origin
        rows = {}
        for x, y, heading, letter in strokes:
            rows.setdefault(heading, []).append((least + self.code(x, y), letter))
        return list(rows.items())

    def shifts_of_seconds(self, strokes):
        """A shift, a heading and a letter for each stroke of a word."""
        least = self.half_origin - self.origin
        return [(least - self.code(x, y), heading, letter) for x, y, heading, letter in strokes]

    def multiplied_indexes(self, multiple, heading):
        """For each index that of the multiplied way, as seen with a heading."""
        u, v = multiple
        seen_u, seen_v = rotate(u, v, -heading % 4)
        across = self.code(seen_u, seen_v)
        up = self.code(-seen_v, seen_u)
        begin = self.way_origin - self.side * (across + up)
        indexes = []
        for row in range(2 * self.side + 1):
            first = begin + row * across
            indexes.extend(list(range(first, first + self.width * up, up)))
        return indexes

    def places(self):
        """The places of all indexes, in order."""
        return [(x, y) for x in range(-self.side, self.side + 1) for y in range(-self.side, self.width - self.side)]

    def indexes_of(self, pairs):
        """The indexes of near pairs."""
        indexes = {}
        for x, y, letter, turn, other in pairs:
            indexes.setdefault((letter, turn, other), []).append(x * self.width + y + self.origin)
        return indexes

    def grids_of(self, pairs):
        """The grids of near pairs, any of which may be there several times."""
        return {key: grid_of(sorted(set(row))) for key, row in self.indexes_of(pairs).items()}

    def masks(self, wanted):
        """For each turn the grid of the second strokes of wanted pairs, all of which have a place in common."""
        masks = []
        for turn, (right, up) in enumerate(STEPS):
            begins = sorted(set([(0, 0), (1, 0), (-right, -up), (1 - right, -up)]))
            masks.append(grid_of([self.origin + self.code(x, y) for x, y in begins if wanted((x, y, 0, turn, 0))]))
        return masks

    def half_grown(self, pairs):
        """The half-grown pairs, of those that may become near ones, that pairs become, told by their indexes."""
        halves = {}
        for (letter, turn, other), indexes in pairs.items():
            for heading, firsts in self.firsts[letter]:
                multiplied = self.multiplied[heading]
                ways = grid_of([multiplied[index] for index in indexes])
                half_turn = (turn - heading) % 4
                near = self.half_near[half_turn]
                for shift, own in firsts:
                    half = ways >> shift & near
                    if half:
                        key = own, half_turn, other
                        halves[key] = halves.get(key, 0) | half
        return halves

    def grown(self, halves):
        """The near pairs that half-grown pairs become."""
        grids = {}
        for (letter, turn, other), half in halves.items():
            for shift, heading, own in self.seconds[other, turn]:
                grid = half >> shift & self.near[heading]
                if grid:
                    key = letter, heading, own
                    grids[key] = grids.get(key, 0) | grid
        return grids
