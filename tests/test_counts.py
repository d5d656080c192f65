"""Point 10: how many pairs of strokes of an age draw the same, or end in one place."""

import time
import unittest

from samples import (DRAGON, FIVE, LEVY, LINE, PLANT, SAMPLES, UNEVEN, WIDE, drawable, end, even_books, long_books, sides)
from strokeonce.counts import meeting_pairs, twice_pairs
from strokeonce.errors import BadNumber, NotEven, TooMany
from strokeonce.webs import twice_age

SOON = 20
CALLS = (twice_pairs, meeting_pairs)


def pairs_among(values):
    """How many pairs of equal values there are."""
    many = {}
    total = 0
    for value in values:
        total += many.get(value, 0)
        many[value] = many.get(value, 0) + 1
    return total


class SmallAges(unittest.TestCase):

    def test_against_plain_drawings(self):
        found = []
        for book in SAMPLES + tuple(even_books(50, 31)):
            for age, strokes in enumerate(drawable(book, 1500)):
                with self.subTest(book=book, age=age):
                    twice = pairs_among([frozenset(sides(each)) for each in strokes])
                    self.assertEqual(twice_pairs(book, age), twice)
                    self.assertEqual(meeting_pairs(book, age), pairs_among([end(each) for each in strokes]))
                found.append(twice)
        self.assertIn(0, found)
        self.assertGreater(max(found), 100)

    def test_several_over_one_another(self):
        book = (((0, 0),), ("[", 0, "]", "[", 0, "]", 0, "+", "+", 0))
        self.assertEqual([twice_pairs(book, age) for age in range(4)], [6, 12, 24, 48])

    def test_coming_back_to_the_beginning_is_no_pair(self):
        square = (((0, 0),), (0, "+", 0, "+", 0, "+", 0))
        self.assertEqual([meeting_pairs(square, age) for age in (0, 1, 300)], [0, 0, 0])

    def test_going_back_at_the_end_of_a_branch_is_no_pair(self):
        self.assertEqual(meeting_pairs((((0, 0),), (0, "[", "+", 0, "]", "[", "-", 0, "]", 0)), 0), 0)


class FarAges(unittest.TestCase):

    def test_lines_there_and_back(self):
        book = (((0, 0),), (0, "+", "+", 0))
        for age in (0, 1, 9, 100, 300):
            self.assertEqual(twice_pairs(book, age), 2 ** age)
            self.assertEqual(meeting_pairs(book, age), 2 ** age - 1)

    def test_never(self):
        for book in (DRAGON, FIVE, LINE):
            self.assertEqual(twice_pairs(book, 300), 0)
        self.assertEqual(meeting_pairs(LINE, 300), 0)

    def test_all_strokes_over_one_another(self):
        # At each age 2 ** age strokes upon each of the places that there are strokes at.
        book = ((("[", 0, "]") * 2 + (0, 0),), (0,))
        for age, strokes in enumerate(drawable(book, 300)):
            self.assertEqual(twice_pairs(book, age), pairs_among([frozenset(sides(each)) for each in strokes]))
        line = ((("[", 0, 0, "]", 0, 0),), (0,))
        for age in (0, 1, 5, 300):
            self.assertEqual(twice_pairs(line, age), 2 ** age * (2 ** age * (2 ** age - 1) // 2))

    def test_ends_of_the_dragon(self):
        # Two strokes end at a place of the dragon at most: pairs and single ends make up all strokes.
        before = 0
        for age in range(20, 300, 40):
            pairs = meeting_pairs(DRAGON, age)
            self.assertGreater(2 ** age, 2 * pairs)
            self.assertGreater(pairs, before)
            before = pairs

    def test_the_first_age_is_that_of_the_web(self):
        for book in even_books(30, 41):
            first = twice_age(book)
            for age in range(8):
                if first is None or age < first:
                    self.assertEqual(twice_pairs(book, age), 0)
                if age == first:
                    self.assertGreater(twice_pairs(book, age), 0)


class Errors(unittest.TestCase):

    def test_ages(self):
        for call in CALLS:
            call(LINE, 300)
            for age in (301, 400, 1000, -1, True, False, None, "1", (1,), [1], {}, 10 ** 5000):
                with self.assertRaises(BadNumber):
                    call(LINE, age)

    def test_books_that_are_not_even(self):
        for call in CALLS:
            for book in UNEVEN:
                with self.assertRaises(NotEven):
                    call(book, 0)
                # An age that is none is told ahead.
                with self.assertRaises(BadNumber):
                    call(book, 301)

    def test_too_many_pairs(self):
        for call in CALLS:
            for age in (0, 300):
                with self.assertRaises(TooMany) as caught:
                    call(WIDE, age)
                self.assertEqual(caught.exception.most, 20000)
            with self.assertRaises(BadNumber):
                call(WIDE, -1)

    def test_kinds(self):
        for call in CALLS:
            for book in (LEVY, DRAGON, PLANT):
                self.assertIs(int, type(call(book, 5)))


class Times(unittest.TestCase):

    def test_far_ages_answer_soon(self):
        for book in long_books() + [DRAGON, LEVY, FIVE, PLANT]:
            for call in CALLS:
                begun = time.perf_counter()
                call(book, 300)
                self.assertLess(time.perf_counter() - begun, SOON)


if __name__ == "__main__":
    unittest.main()
