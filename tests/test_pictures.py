"""Point 17: pictures of windows, strokes that touch, and the first age that comes to a place."""

import random
import time
import unittest

from samples import (DRAGON, FARTHEST, FIVE, LEVY, LINE, OTHER_VALUES, PLANT, SQUARE, STRAIGHT, broad_book, chain,
                     drawable, end, long_books, plain_strokes, random_books)
from strokeonce.ages import stroke, strokes_in
from strokeonce.errors import BadBook, BadNumber, BadPlace, TooMany
from strokeonce.pictures import first_coming, picture, touching
from strokeonce.windows import strokes_at, window

SOON = 30
EVERYWHERE = ((-FARTHEST, -FARTHEST), (FARTHEST, FARTHEST))


def still(*word):
    return (((0,), (1,)), word)


def plain_picture(strokes, corner, far):
    """The picture drawn sign by sign upon a sheet with two columns and two rows for each place."""
    wide, high = far[0] - corner[0] + 1, far[1] - corner[1] + 1
    if wide < 1 or high < 1:
        return ""
    sheet = [[" "] * (2 * wide - 1) for _ in range(2 * high - 1)]
    for row in range(0, 2 * high, 2):
        for column in range(0, 2 * wide, 2):
            sheet[row][column] = "."

    def put(x, y, across, up, sign):
        column = 2 * (x - corner[0]) + across
        row = 2 * (far[1] - y) - up
        if 0 <= column < 2 * wide - 1 and 0 <= row < 2 * high - 1:
            sheet[row][column] = sign

    for each in strokes:
        x, y = each[:2]
        far_x, far_y = end(each)
        put(x, y, 0, 0, "o")
        put(far_x, far_y, 0, 0, "o")
        put(x, y, far_x - x, far_y - y, "-" if y == far_y else "|")
    return "\n".join(["".join(row) for row in sheet])


class Pictures(unittest.TestCase):

    def test_against_plain_pictures(self):
        source = random.Random(6)
        for book in random_books(60) + [LEVY, DRAGON, PLANT, LINE, FIVE, SQUARE]:
            for age, strokes in zip(range(7), drawable(book, 900)):
                for _ in range(4):
                    x, y = random.Random(source.random()).choice(strokes)[:2]
                    corner = (x - source.randint(-1, 7), y - source.randint(-1, 7))
                    far = (corner[0] + source.randint(-1, 12), corner[1] + source.randint(-1, 12))
                    with self.subTest(book=book, age=age, corner=corner, far=far):
                        self.assertEqual(picture(book, age, corner, far), plain_picture(strokes, corner, far))

    def test_whole_drawings(self):
        self.assertEqual(picture(LEVY, 3, (-2, 0), (0, 3)), "o-o-o\n|   |\no . o\n     \n. . .\n     \n. . o")
        self.assertEqual(picture(SQUARE, 0, (0, 0), (1, 1)), "o-o\n| |\no-o")
        self.assertEqual(picture(SQUARE, 0, (-1, -1), (2, 2)),
                         ". . . .\n       \n. o-o .\n  | |  \n. o-o .\n       \n. . . .")
        self.assertEqual(picture(LINE, 2, (0, 0), (4, 0)), "o-o-o-o-o")
        self.assertEqual(picture(PLANT, 1, (0, 0), (2, 1)), ". o .\n  |  \no-o-o")

    def test_greatest_y_first(self):
        self.assertEqual(picture(still("+", 0, "-", 0), 0, (0, 0), (1, 1)), "o-o\n|  \no .")
        self.assertEqual(picture(still("-", 0, "+", 0), 0, (0, -1), (1, 0)), "o .\n|  \no-o")

    def test_each_heading(self):
        for turns, expected in (((), "o-o"), (("+",), "o\n|\no"), (("-",), "o\n|\no"), (("+", "+"), "o-o")):
            strokes = plain_strokes(turns + (0,))
            places = sorted([strokes[0][:2], end(strokes[0])])
            self.assertEqual(picture(still(*turns, 0), 0, *places), expected)

    def test_neighbours_without_a_stroke_between(self):
        self.assertEqual(picture(still(0, "+", 0, "+", 0), 0, (0, 0), (1, 1)), "o-o\n  |\no-o")
        self.assertEqual(picture(still(0, "[", "+", 0, "]", "-", 0), 0, (0, 0), (0, 0)), "o")

    def test_windows_of_one_place(self):
        for place, expected in (((0, 0), "o"), ((1, 0), "o"), ((4, 0), "o"), ((5, 0), "."), ((0, 1), "."),
                                (EVERYWHERE[1], ".")):
            self.assertEqual(picture(LINE, 2, place, place), expected)

    def test_windows_without_a_place(self):
        for corner, far in (((1, 0), (0, 0)), ((0, 1), (0, 0)), ((5, 5), (-5, -5)), ((1, 0), (0, 59)),
                            ((0, 1), (59, 0)), EVERYWHERE[::-1], ((0, FARTHEST), (0, -FARTHEST))):
            for age in (0, 3, 400):
                self.assertEqual(picture(LINE, age, corner, far), "")

    def test_strokes_that_lie_partly_outside(self):
        # The strokes from (0, 0) and from (1, 0) end and begin in the window, but do not lie within it.
        self.assertEqual(picture(LINE, 2, (1, -1), (1, 1)), ".\n \no\n \n.")
        self.assertEqual(picture(still("+", 0, 0, 0), 0, (-1, 1), (1, 1)), ". o .")
        self.assertEqual(picture(SQUARE, 0, (1, 0), (3, 0)), "o . .")

    def test_lengths_of_lines(self):
        for wide in (1, 2, 7, 60):
            for high in (1, 3, 60):
                lines = picture(DRAGON, 9, (-5, -5), (wide - 6, high - 6)).split("\n")
                self.assertEqual([len(line) for line in lines], [2 * wide - 1] * (2 * high - 1))

    def test_59_and_60_wide_and_high(self):
        for wide, high in ((59, 0), (0, 59), (59, 59)):
            picture(LINE, 3, (-9, -9), (wide - 9, high - 9))
            picture(LINE, 400, (-FARTHEST, FARTHEST - 99), (wide - FARTHEST, FARTHEST - 99 + high))
        for wide, high in ((60, 0), (0, 60), (60, 60), (61, 5), (5, 10 ** 400), (2 * 10 ** 400, 3),
                           # None of their places is one of the window, but it is that wide or high.
                           (60, -1), (-1, 60), (-10 ** 400, 60)):
            corner = (-FARTHEST if wide > 10 ** 400 else 0, 0)
            with self.assertRaises(TooMany) as caught:
                picture(LINE, 3, corner, (corner[0] + wide, high))
            self.assertEqual(caught.exception.most, 60)

    def test_far_ages(self):
        middle = 2 ** 399
        self.assertEqual(picture(LINE, 400, (middle, -1), (middle + 2, 0)), "o-o-o\n     \n. . .")
        for book in (DRAGON, LEVY, PLANT, FIVE, STRAIGHT):
            strokes = [row[1:] for row in window(book, 400, (-3, -3), (4, 5))]
            self.assertEqual(picture(book, 400, (-3, -3), (4, 5)), plain_picture(strokes, (-3, -3), (4, 5)))

    def test_too_many_strokes(self):
        # 2197 strokes, one upon the other.
        words = tuple([("[", letter + 1, "]") * 13 for letter in range(3)]) + ((3,),)
        for age, most in ((3, 2000), (400, 100000)):
            with self.assertRaises(TooMany) as caught:
                picture((words, (0,)), age, (0, 0), (59, 59))
            self.assertEqual(caught.exception.most, most)
        with self.assertRaises(TooMany) as caught:
            picture(broad_book(), 400, (0, 0), (9, 9))
        self.assertEqual(caught.exception.most, 100000)
        # What is too wide is told ahead, and what is none of the arguments' values ahead of that.
        for far, error in (((60, 0), 60), ((59, 59), 2000)):
            with self.assertRaises(TooMany) as caught:
                picture((words, (0,)), 3, (0, 0), far)
            self.assertEqual(caught.exception.most, error)

    def test_errors_in_order(self):
        wrong = (((0,), ()), (0,))
        for arguments, error in (((wrong, 401, None, None), BadBook), ((LINE, 401, None, None), BadNumber),
                                 ((LINE, 400, None, (0, FARTHEST + 1)), BadPlace),
                                 ((LINE, 400, (0, 0), (0, FARTHEST + 1)), BadPlace),
                                 ((LINE, 400, (0, 0), (60, FARTHEST)), TooMany)):
            with self.assertRaises(error):
                picture(*arguments)

    def test_ages_and_places(self):
        for age in (401, 1000, -1, True, False, None, "1", (1,), [], {}, 10 ** 5000):
            with self.assertRaises(BadNumber):
                picture(LINE, age, (0, 0), (1, 1))
        for value in OTHER_VALUES + ((0, 0, 0), (0, None), (True, 0), (FARTHEST + 1, 0), (0, -FARTHEST - 1)):
            for corner, far in ((value, (0, 0)), ((0, 0), value)):
                with self.assertRaises(BadPlace):
                    picture(LINE, 2, corner, far)


def plain_of(book, age):
    return list(zip(range(age + 1), drawable(book, 10 ** 5)))[age][1]


class Touching(unittest.TestCase):

    def test_against_plain_drawings(self):
        for book in random_books(40) + [LEVY, DRAGON, PLANT, LINE, FIVE, SQUARE]:
            for age, strokes in zip(range(6), drawable(book, 90)):
                ends = [{each[:2], end(each)} for each in strokes]
                for number, own in enumerate(ends):
                    expected = [other for other, places in enumerate(ends) if other != number and own & places]
                    with self.subTest(book=book, age=age, number=number):
                        self.assertEqual(touching(book, age, number), tuple(expected))

    def test_the_stroke_itself_is_left_out(self):
        self.assertEqual(touching(still(0), 5, 0), ())
        self.assertEqual(touching(LINE, 1, 0), (1,))
        self.assertEqual(touching(LINE, 2, 1), (0, 2))

    def test_both_places_in_common(self):
        self.assertEqual(touching(still(0, "+", "+", 0), 0, 0), (1,))
        self.assertEqual(touching(still("[", 0, "]", "[", 0, "]", 0), 0, 1), (0, 2))

    def test_one_place_in_common_at_either_end(self):
        book = still(0, "[", "+", 0, "]", "[", "-", 0, "]", 0, 0)
        self.assertEqual([touching(book, 0, number) for number in range(5)],
                         [(1, 2, 3), (0, 2, 3), (0, 1, 3), (0, 1, 2, 4), (3,)])
        # Side by side, but without a place in common.
        self.assertEqual(touching(still(0, "+", 0, "+", 0), 0, 0), (1,))

    def test_far_ages(self):
        number = 3 ** 200
        self.assertEqual(touching(LINE, 400, number), (number - 1, number + 1))
        for book in (DRAGON, LEVY, FIVE, PLANT, STRAIGHT):
            for number in (0, strokes_in(book, 400) // 7, strokes_in(book, 400) - 1):
                own = stroke(book, 400, number)
                found = touching(book, 400, number)
                self.assertNotIn(number, found)
                self.assertEqual(found, tuple(sorted(found)))
                for other in found:
                    each = stroke(book, 400, other)
                    self.assertTrue({own[:2], end(own)} & {each[:2], end(each)})
                for place in (own[:2], end(own)):
                    if max(place) <= FARTHEST:
                        self.assertLessEqual(set(strokes_at(book, 400, place)), {number, *found})

    def test_numbers(self):
        for number in (4, 5, -1, True, False, None, "0", (0,), [0], {}, 10 ** 5000):
            with self.assertRaises(BadNumber):
                touching(LINE, 2, number)
        self.assertEqual(touching(LINE, 2, 3), (2,))
        for age in (401, 1000, -1, None, True):
            with self.assertRaises(BadNumber):
                touching(LINE, age, 0)

    def test_just_2000_others_and_one_more(self):
        # 10 * 10 * 10 * 2 strokes upon one another.
        words = (("[", 1, "]") * 10, ("[", 2, "]") * 10, ("[", 3, "]") * 10, ("[", 4, "]") * 2, (4,))
        book = (words, ("[", 0, "]", 4))
        self.assertEqual(touching(book, 4, 2000), tuple(range(2000)))
        self.assertEqual(len(touching(book, 4, 7)), 2000)
        for number in (0, 1999, 2001):
            with self.assertRaises(TooMany) as caught:
                touching((words, ("[", 0, "]", "[", 4, "]", 4)), 4, number)
            self.assertEqual(caught.exception.most, 2000)
        # A number of none of the strokes is told ahead.
        with self.assertRaises(BadNumber):
            touching((words, ("[", 0, "]", "[", 4, "]", 4)), 4, 2002)

    def test_too_many_looks(self):
        with self.assertRaises(TooMany) as caught:
            touching(broad_book(), 400, 0)
        self.assertEqual(caught.exception.most, 100000)


class FirstComing(unittest.TestCase):

    def test_against_plain_drawings(self):
        for book in random_books(40) + [LEVY, DRAGON, PLANT, FIVE]:
            ages = {}
            drawings = [strokes for _, strokes in zip(range(6), drawable(book, 300))]
            for age, strokes in enumerate(drawings):
                for each in strokes:
                    ages.setdefault(each[:2], age)
                    ages.setdefault(end(each), age)
            last = len(drawings) - 1
            places = random.Random(5).sample(sorted(ages), min(len(ages), 60))
            for place in places + [(-9, 9), (3, -2), (2, 2), (FARTHEST, 0)]:
                with self.subTest(book=book, place=place):
                    self.assertEqual(first_coming(book, place, last), ages.get(place))

    def test_at_age_0(self):
        for most in (0, 5, 400):
            for place in ((0, 0), (1, 0)):
                self.assertEqual(first_coming(LINE, place, most), 0)
            self.assertEqual(first_coming(still("+", 0, "[", "-", 0, "]"), (1, 1), most), 0)

    def test_later(self):
        for age in (1, 2, 8, 60, 400):
            self.assertEqual(first_coming(LINE, (2 ** age, 0), 400), age)
            self.assertEqual(first_coming(LINE, (2 ** (age - 1) + 1, 0), 400), age)
            self.assertEqual(first_coming(LINE, (2 ** age, 0), age), age)

    def test_not_within_most(self):
        for age in (1, 2, 60, 400):
            self.assertIsNone(first_coming(LINE, (2 ** age, 0), age - 1))
        self.assertIsNone(first_coming(LINE, (2 ** 400 + 1, 0), 400))
        self.assertIsNone(first_coming(LINE, (2, 0), 0))

    def test_never(self):
        for place in ((0, 1), (-1, 0), (FARTHEST, FARTHEST), (-FARTHEST, 0)):
            self.assertIsNone(first_coming(LINE, place, 400))

    def test_places_that_are_left_again(self):
        # The first letter goes to the left only from the second age on, and then up.
        book = (((1,), ("+", "+", 2), ("-", 2)), (0,))
        self.assertEqual([first_coming(book, place, 9) for place in ((1, 0), (-1, 0), (0, 1), (0, -1))], [0, 2, 3, 5])

    def test_letters_that_come_late(self):
        words = chain(8)[0][:7] + (("+", 7),)
        self.assertEqual(first_coming((words, (0,)), (0, 1), 400), 8)

    def test_most(self):
        for most in (0, 1, 399, 400):
            first_coming(LINE, (0, 0), most)
        for most in (401, 1000, -1, True, False, None, "1", (1,), [1], {}, 10 ** 5000):
            with self.assertRaises(BadNumber):
                first_coming(LINE, (0, 0), most)

    def test_no_places(self):
        for value in OTHER_VALUES + ((0, 0, 0), (0, None), (True, 0), (FARTHEST + 1, 0), (0, -FARTHEST - 1), [0, 0]):
            for most in (0, 401, None):
                with self.assertRaises(BadPlace):
                    first_coming(LINE, value, most)
        with self.assertRaises(BadBook):
            first_coming(None, None, None)

    def test_too_many(self):
        words = (("[", 1, "]") * 13, ("[", 2, "]") * 13, ("[", 3, "]") * 13, ("+", 3))
        # At age 3 there are 2197 strokes upon one another, and at age 4 they have turned.
        book = (words, (0,))
        self.assertEqual(first_coming(book, (1, 0), 400), 0)
        self.assertIsNone(first_coming(book, (0, 1), 3))
        with self.assertRaises(TooMany) as caught:
            first_coming(book, (0, 1), 4)
        self.assertEqual(caught.exception.most, 2000)
        with self.assertRaises(TooMany) as caught:
            first_coming(broad_book(), (10 ** 9, 10 ** 9), 400)
        self.assertEqual(caught.exception.most, 100000)


class Times(unittest.TestCase):

    def test_far_ages_answer_soon(self):
        calls = (lambda book: picture(book, 400, (0, 0), (59, 59)), lambda book: picture(book, 400, (-30, -30), (29, 29)),
                 lambda book: touching(book, 400, strokes_in(book, 400) // 2),
                 lambda book: first_coming(book, (-3, 7), 400), lambda book: first_coming(book, (10 ** 60, -3), 400))
        for book in [DRAGON, LEVY, PLANT, SQUARE, STRAIGHT, broad_book(), long_books()[0], long_books()[3]]:
            for call in calls:
                begun = time.perf_counter()
                try:
                    call(book)
                except TooMany:
                    pass
                self.assertLess(time.perf_counter() - begun, SOON)


if __name__ == "__main__":
    unittest.main()
