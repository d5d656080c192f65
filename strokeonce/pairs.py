"""Pairs of strokes, and what their strokes become.

A pair is (x, y, letter, turn, other), as seen from its first stroke.
"""

from math import isqrt

from strokeonce.books import coming_letters
from strokeonce.checks import check_book
from strokeonce.errors import NotEven
from strokeonce.evens import multiple_for
from strokeonce.paths import STEPS, end_of_stroke, lay_strokes, rotate
from strokeonce.pens import draw

LEAST_NORM = 2


def pair_of(first, second):
    """The pair of two strokes, whether near or not."""
    x, y, heading, letter = first
    far_x, far_y, far_heading, other = second
    seen_x, seen_y = rotate(far_x - x, far_y - y, -heading % 4)
    return seen_x, seen_y, letter, (far_heading - heading) % 4, other


def second_ends(pair):
    """The two places between which the second stroke lies, the first one going from (0, 0) to (1, 0)."""
    x, y = pair[:2]
    right, up = STEPS[pair[3]]
    return (x, y), (x + right, y + up)


def draws_same(pair):
    return second_ends(pair) in (((0, 0), (1, 0)), ((1, 0), (0, 0)))


def ends_together(pair):
    return second_ends(pair)[1] == (1, 0)


def comes_again(pair):
    """Whether the second stroke ends where the first one begins or ends.

    Where a stroke begins the pen has come to, at the beginning or with a stroke
    ahead of it: so just these pairs come to a place twice.
    """
    return second_ends(pair)[1] in ((0, 0), (1, 0))


def comes_to_end(pair):
    """Whether the second stroke begins or ends where the first one ends."""
    return (1, 0) in second_ends(pair)


def touches(pair):
    """Whether the strokes have a place in common."""
    return any([place in ((0, 0), (1, 0)) for place in second_ends(pair)])


def root_of_reach(drawn):
    """The least whole number that is no less than how far the words' strokes go from (0, 0)."""
    ends = [end_of_stroke(stroke) for strokes in drawn for stroke in strokes]
    return isqrt(max([x * x + y * y for x, y in ends]) - 1) + 1


def farness_for(norm, root):
    far = 2
    while norm * far * far <= (far + 2 * root) * (far + 2 * root):
        far += 1
    return far


def seen_by_itself(stroke):
    """A stroke's (x, y, heading, letter), with x and y seen with its heading taken as 0."""
    x, y, heading, letter = stroke
    seen_x, seen_y = rotate(x, y, -heading % 4)
    return seen_x, seen_y, heading, letter


def turned(stroke, quarters):
    """A stroke turned about (0, 0)."""
    x, y, heading, letter = stroke
    turned_x, turned_y = rotate(x, y, quarters)
    return turned_x, turned_y, (heading + quarters) % 4, letter


class Growth:
    """What strokes become, for the letters that come from some parts of an even book."""

    def __init__(self, words, parts):
        self.words = words
        self.letters = coming_letters(words, parts)
        found = multiple_for(words, self.letters)
        if found is None or found[0] * found[0] + found[1] * found[1] < LEAST_NORM:
            raise NotEven("the words must go the same way on, farther than one step")
        self.multiple = found
        self.norm = found[0] * found[0] + found[1] * found[1]
        self.drawn = {letter: draw(words[letter]) for letter in self.letters}
        self.root = root_of_reach(list(self.drawn.values()))
        self.farness = farness_for(self.norm, self.root)
        # What the first stroke of a pair becomes, by its letter, and the second one, by its letter and its turn.
        self.firsts = {letter: [seen_by_itself(stroke) for stroke in self.drawn[letter]]
                       for letter in self.letters}
        self.seconds = {(letter, turn): [turned(stroke, turn) for stroke in self.drawn[letter]]
                        for letter in self.letters for turn in range(4)}

    def grown_place(self, pair):
        """Where the second stroke's path begins at the next age, the first one's at (0, 0)."""
        u, v = self.multiple
        return u * pair[0] - v * pair[1], u * pair[1] + v * pair[0]

    def second_word(self, pair):
        """The strokes that the second stroke becomes, the first one's beginning at (0, 0)."""
        x, y = self.grown_place(pair)
        return lay_strokes(self.words[pair[4]], (x, y, pair[3]))[0]


def growth_of(book):
    """How the strokes of an even book grow."""
    check_book(book)
    words, start = book
    return Growth(words, start)
