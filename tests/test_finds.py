"""Point 10: the first age at which two strokes draw the same or come to one place, and two that do."""

import time
import unittest

from samples import (DRAGON, FIVE, LEVY, LINE, PLANT, SAMPLES, UNEVEN, WIDE, drawable, end, even_books, long_books, sides)
from strokeonce.ages import stroke, strokes_in
from strokeonce.errors import NotEven, TooMany
from strokeonce.finds import first_meeting, first_twice
from strokeonce.webs import meeting_age, twice_age

SOON = 10


def is_twice(first, second):
    return sides(first) == sides(second)


def is_meeting(first, second):
    return end(second) in sides(first)


class Finds(unittest.TestCase):

    def check(self, book, found, age, good, most=3000):
        """Whether what is found has the age, and two strokes that are good."""
        if age is None:
            self.assertIsNone(found)
            return
        self.assertIs(tuple, type(found))
        self.assertEqual(found[0], age)
        _, first, second = found
        self.assertTrue(0 <= first < second < strokes_in(book, age))
        self.assertTrue(good(stroke(book, age, first), stroke(book, age, second)))
        if strokes_in(book, age) <= most:
            strokes = list(drawable(book, most))[age]
            self.assertTrue(good(strokes[first], strokes[second]))

    def check_both(self, book):
        with self.subTest(book=book):
            self.check(book, first_twice(book), twice_age(book), is_twice)
            self.check(book, first_meeting(book), meeting_age(book), is_meeting)

    def test_against_plain_drawings(self):
        for book in SAMPLES + tuple(even_books(40, 21)):
            self.check_both(book)

    def test_none_for_never(self):
        for book in (DRAGON, FIVE, LINE):
            self.assertIsNone(first_twice(book))
        for book in (LINE, (((0, 0),), (0, "+", 0))):
            self.assertIsNone(first_meeting(book))

    def test_pairs_of_start(self):
        for start, expected in (((0, "+", "+", 0), (0, 0, 1)), ((0, 0, "+", "+", 0), (0, 1, 2)),
                                (("[", 0, "]", "+", 0, "-", "-", "[", 0, "]", "-", "[", 0, "]", 0), None)):
            book = (((0, 0),), start)
            found = first_twice(book)
            self.check(book, found, 0, is_twice)
            if expected:
                self.assertEqual(found, expected)

    def test_the_place_0_0(self):
        # Only the beginning is come to again, by the last stroke.
        self.assertEqual(first_meeting((((0, 0),), (0, "+", 0, "+", 0, "+", 0))), (0, 0, 3))
        self.assertEqual(first_meeting((((0, 0),), (0, "+", "+", 0))), (0, 0, 1))

    def test_a_pair_of_one_stroke(self):
        book = (((0, 1), ("[", 1, "]", 1, 1)), ("+", 0))
        self.assertEqual(first_twice(book), (2, 2, 3))
        self.check_both(book)

    def test_letters_that_come_late(self):
        # Each of the letters has its word twice over at another place of it.
        for many in range(1, 8):
            words = tuple([(letter,) * 2 + ("[", "+", letter + 1, "]") for letter in range(many)])
            book = (words + (("[", many, "]", many, many),), (0,))
            self.check_both(book)
            # Between the ages at which the last letter comes and at which its word does.
            self.assertLessEqual(twice_age(book), many + 1)

    def test_ages_that_could_not_be_drawn(self):
        # Straight words of 37 strokes, but for the one that comes last.
        words = tuple([(letter + 1,) * 37 for letter in range(7)])
        book = (words + (("[", 7, "]") + (7,) * 37,), (0,))
        age, first, second = first_twice(book)
        self.assertEqual(age, 8)
        self.assertEqual(strokes_in(book, 8), 37 ** 7 * 38)
        self.check(book, (age, first, second), 8, is_twice)
        self.check(book, first_meeting(book), 8, is_meeting)

    def test_both_strokes_far_behind_the_first(self):
        words = tuple([(letter + 1, "-", letter + 1, "+", letter + 1) for letter in range(7)])
        book = (words + ((7, "-", 7, "[", "-", "-", 7, "]", "+", 7),), (0,))
        self.check_both(book)
        self.assertEqual(first_twice(book)[0], 8)

    def test_long_words(self):
        for book in long_books():
            begun = time.perf_counter()
            self.check_both(book)
            self.assertLess(time.perf_counter() - begun, SOON)

    def test_books_that_are_not_even(self):
        for book in UNEVEN:
            for call in (first_twice, first_meeting):
                with self.assertRaises(NotEven):
                    call(book)

    def test_too_many_pairs(self):
        for call in (first_twice, first_meeting):
            with self.assertRaises(TooMany) as caught:
                call(WIDE)
            self.assertEqual(caught.exception.most, 20000)

    def test_asked_again(self):
        for book in (LEVY, PLANT, DRAGON):
            self.assertEqual(first_meeting(book), first_meeting(book))


if __name__ == "__main__":
    unittest.main()
