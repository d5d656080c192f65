"""Pairs of strokes that are near, and the pairs that they become.

A pair is (x, y, letter, turn, other), as seen from its first stroke. Growing
goes in two steps, as that takes far fewer looks than all strokes of the one
word beside all of the other: first the first stroke becomes its letter's word,
which gives half-grown pairs, then the second one does. A half-grown pair has
the form of a pair, but its x and y tell where the second stroke's path begins.
"""

from math import isqrt

from strokeonce.books import coming_letters
from strokeonce.checks import check_book
from strokeonce.errors import NotEven
from strokeonce.evens import multiple_for
from strokeonce.paths import STEPS, end_of_stroke, lay_strokes, rotate
from strokeonce.pens import draw

LEAST_NORM = 2


def pair_of(first, second):
    """The pair of two strokes, whether near or not."""
    x, y, heading, letter = first
    far_x, far_y, far_heading, other = second
    seen_x, seen_y = rotate(far_x - x, far_y - y, -heading % 4)
    return seen_x, seen_y, letter, (far_heading - heading) % 4, other


def second_ends(pair):
    """The two places between which the second stroke lies, the first one going from (0, 0) to (1, 0)."""
    x, y = pair[:2]
    right, up = STEPS[pair[3]]
    return (x, y), (x + right, y + up)


def draws_same(pair):
    return second_ends(pair) in (((0, 0), (1, 0)), ((1, 0), (0, 0)))


def ends_together(pair):
    return second_ends(pair)[1] == (1, 0)


def comes_again(pair):
    """Whether the second stroke ends where the first one begins or ends.

    Where a stroke begins the pen has come to, at the beginning or with a stroke
    ahead of it: so just these pairs come to a place twice.
    """
    return second_ends(pair)[1] in ((0, 0), (1, 0))


def comes_to_end(pair):
    """Whether the second stroke begins or ends where the first one ends."""
    return (1, 0) in second_ends(pair)


def touches(pair):
    """Whether the strokes have a place in common."""
    return any([place in ((0, 0), (1, 0)) for place in second_ends(pair)])


def root_of_reach(drawn):
    """The least whole number that is no less than how far the words' strokes go from (0, 0)."""
    ends = [end_of_stroke(stroke) for strokes in drawn for stroke in strokes]
    return isqrt(max([x * x + y * y for x, y in ends]) - 1) + 1


def farness_for(norm, root):
    far = 2
    while norm * far * far <= (far + 2 * root) * (far + 2 * root):
        far += 1
    return far


def seen_by_itself(stroke):
    """A stroke's (x, y, heading, letter), with x and y seen with its heading taken as 0."""
    x, y, heading, letter = stroke
    seen_x, seen_y = rotate(x, y, -heading % 4)
    return seen_x, seen_y, heading, letter


class Growth:
    """How near pairs become near pairs, for the letters that come from some parts.

    Two strokes that are farther away from one another than the farness become
    none that are near, so that no far pair needs to be known.
    """

    def __init__(self, words, parts):
        self.words = words
        self.letters = coming_letters(words, parts)
        found = multiple_for(words, self.letters)
        if found is None or found[0] * found[0] + found[1] * found[1] < LEAST_NORM:
            raise NotEven("the words must go the same way on, farther than one step")
        self.multiple = found
        self.drawn = {letter: draw(words[letter]) for letter in self.letters}
        root = root_of_reach(list(self.drawn.values()))
        self.farness = farness_for(found[0] * found[0] + found[1] * found[1], root)
        self.half_farness = self.farness + root
        self.firsts = {letter: [seen_by_itself(stroke) for stroke in self.drawn[letter]]
                       for letter in self.letters}
        self.seconds = {(letter, turn): lay_strokes(words[letter], (0, 0, turn))[0]
                        for letter in self.letters for turn in range(4)}

    def is_near(self, x, y):
        return x * x + y * y <= self.farness * self.farness

    def grown_place(self, pair):
        """Where the second stroke's path begins at the next age, the first one's at (0, 0)."""
        u, v = self.multiple
        return u * pair[0] - v * pair[1], u * pair[1] + v * pair[0]

    def second_word(self, pair):
        """The strokes that the second stroke becomes, the first one's beginning at (0, 0)."""
        x, y = self.grown_place(pair)
        return lay_strokes(self.words[pair[4]], (x, y, pair[3]))[0]

    def numbered_halves(self, pair):
        """The half-grown pairs for each stroke that the first one becomes, each behind the stroke's number.

        Those are left out that are too far away to become near pairs.
        """
        letter, turn, other = pair[2:]
        grown_x, grown_y = self.grown_place(pair)
        seen = [rotate(grown_x, grown_y, -heading % 4) for heading in range(4)]
        most = self.half_farness * self.half_farness
        found = []
        for number, (right, up, heading, own) in enumerate(self.firsts[letter]):
            half_x = seen[heading][0] - right
            half_y = seen[heading][1] - up
            if half_x * half_x + half_y * half_y <= most:
                found.append((number, (half_x, half_y, own, (turn - heading) % 4, other)))
        return found

    def halves(self, pair):
        """The half-grown pairs by themselves."""
        return [half for _, half in self.numbered_halves(pair)]

    def wholes(self, half):
        """The near pairs that a half-grown pair becomes, one for each stroke."""
        x, y, letter, turn, other = half
        most = self.farness * self.farness
        return [(x + right, y + up, letter, heading, own)
                for right, up, heading, own in self.seconds[other, turn]
                if (x + right) * (x + right) + (y + up) * (y + up) <= most]

    def near_within(self, strokes):
        """The near pairs of the strokes of one drawing."""
        return [pair for number, first in enumerate(strokes)
                for pair in self.near_between([first], strokes[number + 1:])]

    def near_between(self, firsts, seconds):
        """The near pairs of a stroke of one drawing and a stroke of another one."""
        pairs = [pair_of(first, second) for first in firsts for second in seconds]
        return [pair for pair in pairs if self.is_near(pair[0], pair[1])]


def growth_of(book):
    """How the near pairs of an even book grow."""
    check_book(book)
    words, start = book
    return Growth(words, start)
