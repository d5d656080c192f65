"""Point 4: what an age comes to, at small ages against plain drawings and at far ages."""

import random
import time
import unittest

from samples import (DRAGON, LEVY, LINE, PLANT, STRAIGHT, broad_book, drawable, end, plain_strokes, plain_walk,
                     plain_word, random_books, trunk, turned)
from strokeonce.ages import area_at, end_at, stroke, strokes_in, turns_at
from strokeonce.books import first_ages
from strokeonce.errors import BadNumber

SOON = 10
NUMBERS = (strokes_in, end_at, turns_at, area_at)

# Neither has a branch; the second one is steady.
SPIRAL = (((0, "+", 1), (1, 0, "-", "-")), ("-", 0, 1))
ROUND = (((0, "+", 1, "-", "-", 0, "+"), (1, 1)), (0, "+", 0, "+", 0, "+", 0))


def still(*word):
    return (((0,), (1,)), word)


def plain_area(strokes):
    return sum([first[0] * end(first)[1] - end(first)[0] * first[1] for first in strokes])


class SmallAges(unittest.TestCase):

    def check(self, book, age, strokes):
        word = plain_word(book, age)
        outside = trunk(word)
        self.assertEqual(strokes_in(book, age), len(strokes))
        self.assertEqual(end_at(book, age), plain_walk(word)[1])
        self.assertEqual(turns_at(book, age), outside.count("+") - outside.count("-"))
        self.assertEqual(area_at(book, age), plain_area(strokes))
        self.assertEqual([stroke(book, age, number) for number in range(len(strokes))], list(strokes))
        with self.assertRaises(BadNumber):
            stroke(book, age, len(strokes))

    def test_against_plain_drawings(self):
        for book in random_books(60) + [LEVY, DRAGON, PLANT, LINE, SPIRAL, ROUND]:
            for age, strokes in zip(range(5), drawable(book, 400)):
                with self.subTest(book=book, age=age):
                    self.check(book, age, strokes)

    def test_books_where_nothing_grows(self):
        book = still("-", 0, "[", 1, "+", 0, "]", 1)
        for age in (0, 1, 2, 1000):
            self.check(book, age, plain_strokes(book[1]))

    def test_kinds(self):
        for call in (strokes_in, turns_at, area_at):
            self.assertIs(int, type(call(PLANT, 3)))
        for value in (end_at(PLANT, 3), stroke(PLANT, 3, 2)):
            self.assertIs(tuple, type(value))
            self.assertEqual({int}, {type(part) for part in value})


class Turns(unittest.TestCase):

    def test_left_and_right(self):
        self.assertEqual(turns_at(still("+", 0, "+", "+"), 0), 3)
        self.assertEqual(turns_at(still("-", 0, "-", "-", "-", "-"), 0), -5)
        self.assertEqual(turns_at(still("+", 0, "-"), 0), 0)

    def test_turns_ahead_of_and_behind_all_strokes(self):
        self.assertEqual(turns_at(still("+", "+", "+", "+", "+", 0), 0), 5)
        self.assertEqual(turns_at(still(0, "-", "-", "-", "-", "-"), 0), -5)

    def test_those_within_branches_are_left_out(self):
        self.assertEqual(turns_at(still("+", "[", "+", 0, "[", "+", "]", "+", "]", "+", 0), 0), 2)
        self.assertEqual(turns_at((((0, "[", "+", 0, "]"),), ("[", 0, "-", "]", 0)), 9), 0)
        self.assertEqual(turns_at((((0, "+"),), ("[", 0, "]", 0)), 9), 9)

    def test_a_letter_within_branches_brings_none(self):
        self.assertEqual(turns_at((((0, "[", 1, "]"), (1, "+")), (0,)), 7), 0)

    def test_more_than_four(self):
        self.assertEqual(turns_at((((0, "+", 0),), (0,)), 1000), 2 ** 1000 - 1)
        self.assertEqual(turns_at((((0, "-", 0),), (0,)), 1000), 1 - 2 ** 1000)


class Areas(unittest.TestCase):

    def test_closed_to_the_left_and_to_the_right(self):
        self.assertEqual(area_at(still(0, "+", 0, "+", 0, "+", 0), 0), 2)
        self.assertEqual(area_at(still(0, "-", 0, "-", 0, "-", 0), 0), -2)
        self.assertEqual(area_at(still(0, 0, "+", 0, 0, 0, "+", 0, 0, "+", 0, 0, 0), 0), 12)

    def test_not_closed(self):
        self.assertEqual(area_at(still(0, 0, 0), 0), 0)
        self.assertEqual(area_at(still(0, "+", 0), 0), 1)
        self.assertEqual(area_at(still("+", "+", 0, 0, "-", 0, 0, 0), 0), -6)

    def test_each_stroke_counts_and_going_back_does_not(self):
        self.assertEqual(area_at(still(0, "[", "+", 0, "]", 0), 0), 1)
        self.assertEqual(area_at(still(0, 0, "[", "+", 0, 0, "]", "[", "-", 0, 0, 0, "]"), 0), 4 - 6)
        self.assertEqual(area_at(still(0, 0, "[", "+", "[", 0, "]", "-", 0, "]", "+", 0), 0), 4)

    def test_squares_that_grow(self):
        square = (((0, 0),), (0, "+", 0, "+", 0, "+", 0))
        for age in (0, 1, 5, 1000):
            self.assertEqual(area_at(square, age), 2 * 4 ** age)


class FarAges(unittest.TestCase):

    def together(self, book, age):
        """All numbers of an age, from those of the letters by themselves at the same age."""
        words, start = book
        count, turns, area = 0, 0, 0
        pen = (0, 0, 0)
        for part in start:
            if part in ("+", "-"):
                turned_by = 1 if part == "+" else -1
                turns += turned_by
                pen = (*pen[:2], (pen[2] + turned_by) % 4)
                continue
            alone = (words, (part,))
            across, up, heading = end_at(alone, age)
            across, up = turned((across, up), pen[2])
            area += area_at(alone, age) + pen[0] * up - pen[1] * across
            count += strokes_in(alone, age)
            turns += turns_at(alone, age)
            pen = (pen[0] + across, pen[1] + up, (pen[2] + heading) % 4)
        return [count, pen, turns, area]

    def test_sums_over_the_start(self):
        for book in (SPIRAL, ROUND, LEVY, DRAGON):
            for age in (1, 200, 999, 1000):
                with self.subTest(book=book, age=age):
                    self.assertEqual([call(book, age) for call in NUMBERS], self.together(book, age))

    def test_a_letter_is_its_word_one_age_ahead(self):
        for book in random_books(10) + [SPIRAL, ROUND, PLANT]:
            words = book[0]
            for letter, _ in first_ages(book):
                for call in NUMBERS:
                    with self.subTest(book=book, letter=letter, call=call.__name__):
                        self.assertEqual(call((words, (letter,)), 1000), call((words, words[letter]), 999))

    def test_numbers_of_strokes(self):
        self.assertEqual(strokes_in(PLANT, 1000), 3 ** 1000)
        self.assertEqual(strokes_in(LINE, 999), 2 ** 999)
        self.assertEqual(strokes_in((((0, 1), (1,)), (0,)), 1000), 1001)

    def test_ends(self):
        self.assertEqual(end_at(LINE, 1000), (2 ** 1000, 0, 0))
        self.assertEqual(end_at(LEVY, 1000), (2 ** 500, 0, 0))
        self.assertEqual(end_at(PLANT, 1000), (2 ** 1000, 0, 0))
        self.assertEqual(end_at((((0,),), ("-", 0, "-")), 1000), (0, -1, 2))

    def test_letters_that_take_turns(self):
        book = (((1, "+"), (0, "-", 0)), (0,))
        for age in (0, 1, 2, 3, 8):
            self.assertEqual(turns_at(book, age), trunk(plain_word(book, age)).count("+")
                             - trunk(plain_word(book, age)).count("-"))


class FarStrokes(unittest.TestCase):

    def test_each_begins_where_the_one_ahead_of_it_ended(self):
        source = random.Random(5)
        for book in (SPIRAL, ROUND, LEVY, DRAGON, LINE):
            for age in (50, 1000):
                many = strokes_in(book, age)
                for number in [0, 1, many - 2] + [source.randrange(many - 1) for _ in range(3)]:
                    with self.subTest(book=book, age=age):
                        ahead = stroke(book, age, number)
                        self.assertEqual(stroke(book, age, number + 1)[:2], end(ahead))

    def test_going_back_in_branches(self):
        # Of three strokes that one becomes, the last two begin where the first one ends.
        source = random.Random(6)
        for age in (30, 1000):
            for _ in range(4):
                number = 3 * source.randrange(3 ** (age - 1))
                first, second, third = [stroke(PLANT, age, number + more) for more in range(3)]
                self.assertEqual(second[:2], end(first))
                self.assertEqual(third[:2], end(first))
                self.assertEqual(second[2], (first[2] + 1) % 4)
                self.assertEqual(third[2], first[2])

    def test_the_first_and_the_last(self):
        for book in (SPIRAL, ROUND, LEVY, DRAGON):
            self.assertEqual(stroke(book, 1000, 0)[:2], (0, 0))
            self.assertEqual(end(stroke(book, 1000, strokes_in(book, 1000) - 1)), end_at(book, 1000)[:2])
        self.assertEqual(stroke(LINE, 1000, 2 ** 1000 - 1), (2 ** 1000 - 1, 0, 0, 0))
        self.assertEqual(stroke(LINE, 1000, 3 ** 500), (3 ** 500, 0, 0, 0))

    def test_numbers_of_none(self):
        for book, age in ((LINE, 3), (PLANT, 1000), (DRAGON, 0)):
            many = strokes_in(book, age)
            for number in (many, many + 1, -1, -many, True, False, None, "0", "", (), (0,), [0], {}, 10 ** 5000):
                with self.subTest(book=book, age=age), self.assertRaises(BadNumber):
                    stroke(book, age, number)


class Times(unittest.TestCase):

    def test_far_ages_answer_soon(self):
        for book in (broad_book(), STRAIGHT):
            many = strokes_in(book, 1000)
            for call in NUMBERS + (lambda one, age: stroke(one, age, many - 1),):
                begun = time.perf_counter()
                call(book, 1000)
                self.assertLess(time.perf_counter() - begun, SOON)


if __name__ == "__main__":
    unittest.main()
