"""Which pairs are near, by two measures.

By the first one, that of point 7, a pair is near if the beginnings of its
strokes are no farther from one another than the farness. By the other one it is
near if their middles are close. Most often far fewer pairs are near by middles,
but all pairs of strokes that have a place in common are, so that these few are
enough for whatever only asks for such pairs.

By either measure pairs that are not near never become near ones: with some near
pairs those that they come from are known, too, and no others need to be.
"""

from math import isqrt

from strokeonce.pairs import pair_of
from strokeonce.paths import STEPS, end_of_stroke, rotate


def rows_of_disc(disc):
    """(x, least y, greatest y) for each x at which a disc may have places.

    A disc (a, b, most) has the places with (2 * x + a) ** 2 + (2 * y + b) ** 2
    of at most most, so that its middle may lie half-way between places.
    """
    a, b, most = disc
    side = isqrt(most)
    rows = []
    for x in range(-((side + a) // 2), (side - a) // 2 + 1):
        high = isqrt(most - (2 * x + a) * (2 * x + a))
        rows.append((x, -((high + b) // 2), (high - b) // 2))
    return rows


def places_in_disc(disc):
    """How many places a disc has."""
    return sum([high - low + 1 for _, low, high in rows_of_disc(disc)])


def greatest_side(discs, norm):
    """A number that no x and no y is beyond, on either side of 0, of the places of discs.

    The places may have been multiplied by a complex number; norm is its square.
    """
    return max([(isqrt(norm * most) + isqrt(norm * (a * a + b * b)) + 1) // 2 for a, b, most in discs])


class Nearness:
    """A measure: near are two strokes whose anchors are no farther from one another than a limit.

    The anchor of a stroke is twice its beginning, or twice its middle, which is
    one step ahead of that: ahead is 0 or 1. most and half_most are squares of
    limits, for near pairs, and for half-grown ones that may become such, where
    the second stroke is a whole path and its anchor twice that path's beginning
    or middle.
    """

    def __init__(self, growth, ahead, most, half_most):
        u, v = growth.multiple
        self.growth = growth
        self.ahead = ahead
        self.most = most
        # For each turn where the second stroke of a near pair begins, and the second path of a half-grown one.
        ways = [rotate(u, v, turn) for turn in range(4)]
        self.discs = [(ahead * right - ahead, ahead * up, most) for right, up in STEPS]
        self.half_discs = [(ahead * right - ahead, ahead * up, half_most) for right, up in ways]

    def anchored(self, strokes):
        """The x and the y of its anchor, and the stroke itself, for each of some strokes."""
        return [(2 * stroke[0] + self.ahead * STEPS[stroke[2]][0], 2 * stroke[1] + self.ahead * STEPS[stroke[2]][1],
                 stroke) for stroke in strokes]

    def near_to(self, row, rows):
        """The near pairs of a first stroke and each of some second ones, all of them with their anchors."""
        x, y, first = row
        return [pair_of(first, second) for far_x, far_y, second in rows
                if (far_x - x) * (far_x - x) + (far_y - y) * (far_y - y) <= self.most]

    def near_between(self, firsts, seconds):
        """The near pairs of a stroke of one drawing and a stroke of another one."""
        rows = self.anchored(seconds)
        return [pair for row in self.anchored(firsts) for pair in self.near_to(row, rows)]

    def near_within(self, strokes):
        """The near pairs of the strokes of one drawing."""
        rows = self.anchored(strokes)
        return [pair for number, row in enumerate(rows) for pair in self.near_to(row, rows[number + 1:])]


def farness_nearness(growth):
    """Point 7's measure, by the beginnings of strokes."""
    far = 2 * growth.farness
    half = far + 2 * growth.root
    return Nearness(growth, 0, far * far, half * half)


def greatest_sway(growth):
    """The greatest square of how far twice the middle of a stroke is from where the word ends, over all words."""
    u, v = growth.multiple
    sides = [(stroke, end_of_stroke(stroke)) for strokes in growth.drawn.values() for stroke in strokes]
    sways = [(begin[0] + end[0] - u, begin[1] + end[1] - v) for begin, end in sides]
    return max([across * across + up * up for across, up in sways])


def middle_nearness(growth):
    """The measure by the middles of strokes.

    The way between the anchors of two strokes is multiplied at each age, and
    altered by no more than the greatest sway s for either stroke. So where it
    is longer than q, with m * q = q + 2 * s for the length m of the multiple,
    it stays longer. Here all of these are told by their squares: the square of
    q = 2 * s * (m + 1) / (m * m - 1) has but one root to be taken.

    A word's first stroke begins where the word does, so that s is no less than
    m - 1, and q no less than 2, which is how far the anchors of two strokes
    that have a place in common are from one another at most.
    """
    norm = growth.norm
    sway = greatest_sway(growth)
    most = (4 * sway * (norm + 1) + isqrt(64 * sway * sway * norm)) // ((norm - 1) * (norm - 1))
    return Nearness(growth, 1, most, most + sway + isqrt(4 * most * sway))
