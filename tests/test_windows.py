"""Point 5: boxes, windows and the strokes that begin at a place."""

import random
import time
import unittest

from samples import (DRAGON, FARTHEST, LEVY, LINE, OTHER_VALUES, PLANT, STRAIGHT, broad_book, drawable, end, random_books)
from strokeonce.ages import end_at, strokes_in, stroke
from strokeonce.books import first_ages
from strokeonce.errors import BadNumber, BadPlace, TooMany
from strokeonce.windows import box, strokes_at, window

SOON = 10
EVERYWHERE = ((-FARTHEST, -FARTHEST), (FARTHEST, FARTHEST))


def still(*word):
    return (((0,), (1,)), word)


def plain_box(strokes):
    places = [(0, 0)] + [end(each) for each in strokes]
    return (min([x for x, _ in places]), min([y for _, y in places]),
            max([x for x, _ in places]), max([y for _, y in places]))


def plain_window(strokes, corner, far):
    def inside(place):
        return corner[0] <= place[0] <= far[0] and corner[1] <= place[1] <= far[1]
    return tuple([(number, *each) for number, each in enumerate(strokes)
                  if inside(each[:2]) or inside(end(each))])


class Boxes(unittest.TestCase):

    def test_against_plain_drawings(self):
        for book in random_books(80) + [LEVY, DRAGON, PLANT, LINE]:
            for age, strokes in zip(range(8), drawable(book, 1500)):
                with self.subTest(book=book, age=age):
                    self.assertEqual(box(book, age), plain_box(strokes))

    def test_each_heading(self):
        for turns, expected in (((), (0, 0, 3, 2)), (("+",), (-2, 0, 0, 3)),
                                (("+", "+"), (-3, -2, 0, 0)), (("-",), (0, -3, 2, 0))):
            self.assertEqual(box(still(*turns, 0, 0, 0, "+", 0, 0), 7), expected)

    def test_the_beginning_is_among_the_places(self):
        self.assertEqual(box(still(0), 0), (0, 0, 1, 0))
        self.assertEqual(box(still("+", "+", 0, "[", "]"), 0), (-1, 0, 0, 0))

    def test_branches_are_among_the_places(self):
        self.assertEqual(box(still("[", "-", 0, 0, "]", "[", "+", 1, "]", 0), 0), (0, -2, 1, 1))

    def test_far_ages(self):
        self.assertEqual(box(LINE, 400), (0, 0, 2 ** 400, 0))
        self.assertEqual(box((((0, 0),), (0, "+", 0, 0, "+", 0, 0)), 400), (-2 ** 400, 0, 2 ** 400, 2 ** 401))
        for book in (LEVY, DRAGON, PLANT, broad_book()):
            words, start = book
            left, low, right, high = box(book, 400)
            x, y, _ = end_at(book, 400)
            self.assertTrue(left <= x <= right and low <= y <= high)
            for number in (0, 1, strokes_in(book, 400) // 3, strokes_in(book, 400) - 1):
                x, y = end(stroke(book, 400, number))
                self.assertTrue(left <= x <= right and low <= y <= high)
            for letter, _ in first_ages(book):
                self.assertEqual(box((words, (letter,)), 400), box((words, words[letter]), 399))

    def test_no_ages(self):
        for call in (lambda age: box(LINE, age), lambda age: window(LINE, age, (0, 0), (0, 0)),
                     lambda age: strokes_at(LINE, age, (0, 0))):
            call(400)
            for age in (401, 1000, -1, True, False, None, "1", (1,), [], {}, 10 ** 5000):
                with self.assertRaises(BadNumber):
                    call(age)


class Windows(unittest.TestCase):

    def test_against_plain_drawings(self):
        source = random.Random(4)
        for book in random_books(60) + [LEVY, DRAGON, PLANT]:
            for age, strokes in zip(range(7), drawable(book, 900)):
                left, low, right, high = plain_box(strokes)
                for _ in range(4):
                    corner = (source.randint(left - 1, right), source.randint(low - 1, high))
                    far = (corner[0] + source.randint(0, 4), corner[1] + source.randint(0, 4))
                    with self.subTest(book=book, age=age, corner=corner, far=far):
                        self.assertEqual(window(book, age, corner, far), plain_window(strokes, corner, far))

    def test_strokes_that_begin_or_end_in_it(self):
        book = still(0, 0, 0, "+", 0)
        self.assertEqual(window(book, 0, (1, 0), (1, 0)), ((0, 0, 0, 0, 0), (1, 1, 0, 0, 0)))
        self.assertEqual(window(book, 0, (0, 0), (0, 0)), ((0, 0, 0, 0, 0),))
        self.assertEqual(window(book, 0, (3, 1), (9, 9)), ((3, 3, 0, 1, 0),))
        self.assertEqual(window(book, 0, (-9, 1), (2, 9)), ())

    def test_order_is_that_of_the_strokes(self):
        book = still(0, "+", "+", 1, 0, "+", "+", 1)
        self.assertEqual(window(book, 0, (0, 0), (0, 0)),
                         ((0, 0, 0, 0, 0), (1, 1, 0, 2, 1), (2, 0, 0, 2, 0), (3, -1, 0, 0, 1)))

    def test_windows_without_a_place(self):
        for corner, far in (((1, 0), (0, 0)), ((0, 1), (0, 0)), ((5, 5), (-5, -5)), ((9, 0), (3, 4)),
                            ((FARTHEST, 0), (-FARTHEST, 0)), ((0, FARTHEST), (3, -FARTHEST))):
            for book in (LINE, DRAGON, broad_book()):
                for age in (0, 5, 400):
                    self.assertEqual(window(book, age, corner, far), ())

    def test_windows_far_outside(self):
        for place in ((FARTHEST, FARTHEST), (-FARTHEST, 0), (-1, -1), (0, 1), (2 ** 400 + 1, 0)):
            self.assertEqual(window(LINE, 400, place, place), ())

    def test_windows_of_all_places(self):
        self.assertEqual(len(window(LEVY, 10, *EVERYWHERE)), 1024)
        self.assertEqual(window(still(1), 400, *EVERYWHERE), ((0, 0, 0, 0, 1),))

    def test_places_beyond_the_limit(self):
        for far in (FARTHEST + 1, -FARTHEST - 1):
            for place in ((far, 0), (0, far)):
                for corner, end_place in ((place, (0, 0)), ((0, 0), place), (place, place)):
                    with self.assertRaises(BadPlace):
                        window(LINE, 2, corner, end_place)

    def test_no_places(self):
        for value in OTHER_VALUES + ((0, 0, 0), (0, None), (True, 0), (0, False), ("0", 0), (0, (0,)), [0, 0]):
            for corner, end_place in ((value, (0, 0)), ((0, 0), value)):
                with self.assertRaises(BadPlace):
                    window(LINE, 2, corner, end_place)
            with self.assertRaises(BadPlace):
                strokes_at(LINE, 2, value)

    def test_the_leftmost_error(self):
        with self.assertRaises(BadNumber):
            window(LINE, 401, None, (0, FARTHEST + 1))
        with self.assertRaises(BadPlace):
            window(LINE, 400, None, (0, 0))
        # A window of too many strokes, but of no place.
        with self.assertRaises(BadPlace):
            window(LINE, 400, EVERYWHERE[0], (FARTHEST, FARTHEST + 1))

    def test_far_ages(self):
        middle = 2 ** 399
        self.assertEqual(window(LINE, 400, (middle, -5), (middle + 1, 5)),
                         tuple([(number, number, 0, 0, 0) for number in range(middle - 1, middle + 2)]))
        found = window(DRAGON, 400, (-1, -1), (1, 1))
        self.assertEqual(found[0], (0, *stroke(DRAGON, 400, 0)))
        for row in found:
            self.assertEqual(row[1:], stroke(DRAGON, 400, row[0]))

    def test_rows_are_tuples(self):
        found = window(PLANT, 3, (0, 0), (1, 1))
        self.assertIs(tuple, type(found))
        self.assertEqual({tuple}, {type(row) for row in found})
        self.assertIs(tuple, type(strokes_at(PLANT, 3, (1, 0))))


class StrokesAt(unittest.TestCase):

    def test_against_plain_drawings(self):
        for book in random_books(60) + [LEVY, DRAGON, PLANT]:
            for age, strokes in zip(range(6), drawable(book, 300)):
                for place in {each[:2] for each in strokes} | {end(each) for each in strokes} | {(-3, 7)}:
                    expected = tuple([number for number, each in enumerate(strokes) if each[:2] == place])
                    with self.subTest(book=book, age=age, place=place):
                        self.assertEqual(strokes_at(book, age, place), expected)

    def test_not_those_that_end_there(self):
        book = still(0, 0, "+", "+", 0, 0, "+", "+", 1)
        self.assertEqual(strokes_at(book, 0, (0, 0)), (0, 4))
        self.assertEqual(strokes_at(book, 0, (1, 0)), (1, 3))
        self.assertEqual(strokes_at(book, 0, (2, 0)), (2,))
        self.assertEqual(strokes_at(still(0), 0, (1, 0)), ())

    def test_where_none_begins(self):
        for place in ((0, 1), (-1, 0), (FARTHEST, FARTHEST), (2 ** 400, 0)):
            self.assertEqual(strokes_at(LINE, 400, place), ())

    def test_where_many_do(self):
        book = (((0,) + ("[", 0, "]") * 12, (1,)), (0,))
        self.assertEqual(len(strokes_at(book, 1, (1, 0))), 12)
        self.assertEqual(strokes_at(still(*(("[", 0, "]") * 13)), 9, (0, 0)), tuple(range(13)))

    def test_far_ages(self):
        self.assertEqual(strokes_at(LINE, 400, (3 ** 200, 0)), (3 ** 200,))
        found = strokes_at(DRAGON, 400, (0, 0))
        self.assertEqual(found[0], 0)
        self.assertEqual([stroke(DRAGON, 400, number)[:2] for number in found], [(0, 0)] * len(found))


def crowd(*start):
    """At age 4 just 10000 looks for each 0 of start at the window of CORNER, and no stroke there.

    Each 0 becomes 9, 900, 9000 paths of its own place, and each of these 10
    strokes that go around CORNER, which lies in the box of all.
    """
    words = (("[", 1, "]") * 9, ("[", 2, "]") * 10, ("[", 3, "]") * 10,
             (4, 4, "+", 4, 4, "-") + (4,) * 6, (4,))
    return (words, start)


CORNER = (0, 2)
TEN = ("[", 0, "]") * 10


class TooManyStrokes(unittest.TestCase):

    def expect(self, most, call, *arguments):
        with self.assertRaises(TooMany) as caught:
            call(*arguments)
        self.assertEqual(caught.exception.most, most)

    def test_just_2000_strokes_and_one_more(self):
        for age in (11, 30, 400):
            self.assertEqual(len(window(LINE, age, (-7, 0), (1999, 0))), 2000)
            self.expect(2000, window, LINE, age, (-7, 0), (2000, 0))

    def test_just_2000_strokes_at_a_place_and_one_more(self):
        # From the end of the first stroke 10 * 10 * 10 * 2 go on, each of them once.
        words = (("[", 1, "]") * 10, ("[", 2, "]") * 10, ("[", 3, "]") * 10, ("[", 4, "]") * 2, (4,))
        book = (words, (4, 0))
        self.assertEqual(strokes_at(book, 4, (1, 0)), tuple(range(1, 2001)))
        self.expect(2000, strokes_at, (words, (4, "[", 4, "]", 0)), 4, (1, 0))

    def test_strokes_that_end_at_a_place_do_not_count_there(self):
        words = (("[", 1, "]") * 10, ("[", 2, "]") * 10, ("[", 3, "]") * 10, ("[", 4, "]") * 2, (4,))
        book = (words, ("[", 4, "+", "+", 0, "]", 4, "+", "+", "[", 4, "]"))
        self.assertEqual(strokes_at(book, 4, (0, 0)), (0, 2001))

    def test_just_100000_looks_and_one_more(self):
        self.assertEqual(strokes_in(crowd(*TEN), 4), 90000)
        self.assertEqual(window(crowd(*TEN), 4, CORNER, CORNER), ())
        self.assertEqual(strokes_at(crowd(*TEN), 4, CORNER), ())
        # One part more, that lies outside as a whole.
        self.expect(100000, window, crowd(*TEN, 4), 4, CORNER, CORNER)
        self.expect(100000, strokes_at, crowd(*TEN, 4), 4, CORNER)

    def test_both_too_many(self):
        # Looks are told instead of strokes.
        self.expect(100000, window, LINE, 400, *EVERYWHERE)
        self.expect(100000, window, crowd(*TEN, 4), 4, (0, 0), CORNER)
        self.expect(2000, window, LINE, 12, *EVERYWHERE)

    def test_behind_the_errors_of_all_arguments(self):
        with self.assertRaises(BadPlace):
            window(LINE, 400, EVERYWHERE[0], None)


class Times(unittest.TestCase):

    def test_far_ages_answer_soon(self):
        calls = (lambda book: box(book, 400), lambda book: window(book, 400, (0, 0), (3, 3)),
                 lambda book: window(book, 400, *EVERYWHERE), lambda book: strokes_at(book, 400, (1, 0)))
        for book in (broad_book(), STRAIGHT):
            for call in calls:
                begun = time.perf_counter()
                try:
                    call(book)
                except TooMany:
                    pass
                self.assertLess(time.perf_counter() - begun, SOON)

    def test_branches_far_within_one_another(self):
        book = (((0,), ("[", 1, 0, "]")), (1, 0))
        self.assertEqual(box(book, 400), (0, 0, 2, 0))
        self.assertEqual(len(strokes_at(book, 400, (1, 0))), 1)


if __name__ == "__main__":
    unittest.main()
