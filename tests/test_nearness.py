"""Both measures of near pairs, and how near pairs become near pairs one by one."""

import random
import unittest

from samples import (BACK, DRAGON, FAR_ASIDE, FAR_BACK, FIVE, LEVY, LINE, PLANT, SAMPLES, book_farness, even_books,
                     moved, plain_multiple, plain_pair, plain_strokes, times)
from strokeonce.nearness import (farness_nearness, greatest_side, middle_nearness, places_in_disc, rows_of_disc)
from strokeonce.pairs import growth_of, touches
from strokeonce.steps import Steps

DISCS = tuple([(a, b, most) for a in (-3, -1, 0, 1, 2) for b in (-2, 0, 1, 5) for most in (0, 1, 2, 4, 5, 23, 64)])
BOOKS = SAMPLES + (FAR_BACK, FAR_ASIDE) + tuple(even_books(12, 31))


def plain_disc(a, b, most):
    return {(x, y) for x in range(-9, 10) for y in range(-9, 10) if (2 * x + a) ** 2 + (2 * y + b) ** 2 <= most}


def middle_way(pair):
    """The square of twice the way between the middles of a pair's strokes."""
    across, up = ((1, 0), (0, 1), (-1, 0), (0, -1))[pair[3]]
    return (2 * pair[0] + across - 1) ** 2 + (2 * pair[1] + up) ** 2


def children(book, pair):
    """All pairs that a pair becomes, near or not."""
    words = book[0]
    x, y, letter, turn, other = pair
    later = moved(plain_strokes(words[other]), times((x, y), plain_multiple(book)), turn)
    return {plain_pair(one, two) for one in plain_strokes(words[letter]) for two in later}


def random_pairs(source, growth, side, many):
    return [(source.randint(-side, side), source.randint(-side, side), source.choice(growth.letters),
             source.randrange(4), source.choice(growth.letters)) for _ in range(many)]


class Discs(unittest.TestCase):

    def test_rows(self):
        for disc in DISCS:
            with self.subTest(disc=disc):
                places = {(x, y) for x, low, high in rows_of_disc(disc) for y in range(low, high + 1)}
                self.assertEqual(places, plain_disc(*disc))
                self.assertEqual(places_in_disc(disc), len(places))

    def test_sides(self):
        for multiple in ((1, 0), (1, 1), (3, -2), (0, 40)):
            norm = multiple[0] ** 2 + multiple[1] ** 2
            for disc in DISCS:
                places = [times(place, multiple) for place in plain_disc(*disc)]
                farthest = max([max(abs(x), abs(y)) for x, y in places], default=0)
                self.assertLessEqual(farthest, greatest_side([disc], norm))
        self.assertEqual(greatest_side([(0, 0, 400)], 1), 10)


class Measures(unittest.TestCase):

    def test_near_pairs_by_farness(self):
        for book in (DRAGON, LINE, BACK):
            nearness = farness_nearness(growth_of(book))
            far = book_farness(book)
            for x in range(far + 2):
                near = nearness.near_between([(0, 0, 1, 0)], [(-x, 3, 2, 0)])
                self.assertEqual(near, [(3, x, 0, 1, 0)] if x * x + 9 <= far * far else [])

    def test_near_pairs_of_a_drawing(self):
        strokes = plain_strokes((0, "+", 0, "[", 0, 0, "]", 0, "+", "+", 0))
        for book in (DRAGON, LEVY, FIVE):
            nearness = middle_nearness(growth_of(book))
            pairs = [plain_pair(first, second) for number, first in enumerate(strokes)
                     for second in strokes[number + 1:]]
            near = [pair for pair in pairs if middle_way(pair) <= nearness.most]
            self.assertEqual(nearness.near_within(strokes), near)

    def test_strokes_with_a_place_in_common_are_near(self):
        places = [(x, y, 0, turn, 0) for x in range(-2, 3) for y in range(-2, 3) for turn in range(4)]
        touching = [pair for pair in places if touches(pair)]
        self.assertEqual(len(touching), 14)
        for book in BOOKS:
            growth = growth_of(book)
            limit = middle_nearness(growth).most
            self.assertTrue(all([middle_way(pair) <= limit for pair in touching]))
            self.assertTrue(all([pair[0] ** 2 + pair[1] ** 2 <= growth.farness ** 2 for pair in touching]))

    def test_limit_by_middles(self):
        # The sway of the dragon's strokes is 1: q is 2 / (the root of 2 - 1), about 4.83, its square 23.3.
        self.assertEqual(middle_nearness(growth_of(DRAGON)).most, 23)
        # Here q is just 2: middles one step apart, of strokes that just touch.
        for book in (LINE, PLANT):
            self.assertEqual(middle_nearness(growth_of(book)).most, 4)

    def test_pairs_that_are_not_near_never_become_near(self):
        source = random.Random(6)
        for book in BOOKS:
            growth = growth_of(book)
            limit = middle_nearness(growth).most
            far = growth.farness ** 2
            for pair in random_pairs(source, growth, 2 * growth.farness, 60):
                for child in children(book, pair):
                    with self.subTest(book=book, pair=pair):
                        self.assertTrue(middle_way(pair) <= limit or middle_way(child) > limit)
                        self.assertTrue(pair[0] ** 2 + pair[1] ** 2 <= far or child[0] ** 2 + child[1] ** 2 > far)


class Growing(unittest.TestCase):

    def test_against_all_strokes_beside_one_another(self):
        source = random.Random(8)
        for book in BOOKS:
            growth = growth_of(book)
            for nearness in (farness_nearness(growth), middle_nearness(growth)):
                steps = Steps(nearness)
                for pair in random_pairs(source, growth, growth.farness, 20):
                    grown = {whole for half in steps.halves(pair) for whole in steps.wholes(half)}
                    near = {child for child in children(book, pair)
                            if (2 * child[0] + nearness.discs[child[3]][0]) ** 2
                            + (2 * child[1] + nearness.discs[child[3]][1]) ** 2 <= nearness.most}
                    with self.subTest(book=book, pair=pair):
                        self.assertEqual(grown, near)


if __name__ == "__main__":
    unittest.main()
