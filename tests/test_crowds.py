"""Point 18: the kinds of strokes, and what they tell of all ages."""

import time
import unittest
from unittest import mock

from samples import (BRANCHED, DRAGON, FIVE, LEVY, LINE, OTHER_VALUES, PLANT, SHORT, SQUARE, STRAIGHT, THREE, UNEVEN,
                     book_farness, drawable, end, even_books, long_books, sides, turned)
from strokeonce.ages import strokes_in
from strokeonce.crowds import different_places, different_strokes, kinds_that_come, most_drawn, most_ending
from strokeonce.errors import BadBook, BadNumber, NotEven, TooMany
from strokeonce.webs import never_twice

SOON = 10
OF_ALL_AGES = (kinds_that_come, most_drawn, most_ending)
OF_AN_AGE = (different_strokes, different_places)

THERE_AND_BACK = (((0, 0),), (0, "+", "+", 0))
# Four strokes upon one another, of which one goes back.
STACKED = (((0, 0),), ("[", 0, "]", "[", 0, "]", 0, "+", "+", 0))
# Age by age more and more strokes lie upon one another.
TWICE = (((0, 0, "[", 0, "]"),), (0,))
BOOKS = [LINE, SQUARE, FIVE, SHORT, PLANT, BRANCHED, THERE_AND_BACK, STACKED]

# Each stroke becomes 14, of which 13 lie upon one another.
CROWDED = ((("[", 0, "]") * 12 + (0, 0),), (0,))


def plain_kinds(strokes, far):
    """The kind of each stroke, by the words of the point."""
    begun = {}
    for number, each in enumerate(strokes):
        begun.setdefault(each[:2], []).append(number)
    around = [(x, y) for x in range(-far, far + 1) for y in range(-far, far + 1) if x * x + y * y <= far * far]
    kinds = []
    for number, (x, y, heading, letter) in enumerate(strokes):
        near = []
        for across, up in around:
            for other in begun.get((x + across, y + up), []):
                if other != number:
                    place = turned((across, up), -heading)
                    near.append((place, (strokes[other][2] - heading) % 4, strokes[other][3], other > number))
        kinds.append((letter, tuple(sorted(near))))
    return kinds


def all_plain_kinds(book, most):
    """The kinds of all ages with their first ages, or None where they need more strokes than can be drawn.

    An age without a new kind is followed by none with one.
    """
    far = book_farness(book)
    ages = {}
    for age, strokes in enumerate(drawable(book, most)):
        known = len(ages)
        for kind in plain_kinds(strokes, far):
            ages.setdefault(kind, age)
        if len(ages) == known:
            return ages
    return None


def greatest(values):
    """How often the most frequent value is among them."""
    many = {}
    for value in values:
        many[value] = many.get(value, 0) + 1
    return max(many.values())


def first_greatest(rows):
    """The greatest of the numbers, and the first index at which it stands."""
    return max(rows), rows.index(max(rows))


def drawn_groups(strokes):
    return greatest([frozenset(sides(each)) for each in strokes])


def ending_groups(strokes):
    return greatest([end(each) for each in strokes])


def plain_strokes_of(strokes):
    return len({frozenset(sides(each)) for each in strokes})


def plain_places_of(strokes):
    return len({(0, 0)} | {end(each) for each in strokes})


def answer(call, *arguments):
    """The answer, or the limit that is passed, in a list."""
    try:
        return call(*arguments)
    except TooMany as error:
        return [error.most]


class Kinds(unittest.TestCase):

    def test_against_plain_drawings(self):
        many = 0
        for book in BOOKS + even_books(90, 3, 5):
            kinds = all_plain_kinds(book, 1200)
            if kinds is not None:
                many += 1
                with self.subTest(book=book):
                    self.assertEqual(kinds_that_come(book), len(kinds))
        self.assertGreater(many, 30)

    def test_a_line(self):
        # The farness is 5. Up to age 3 the line has 15 kinds, one for each of its strokes; then come those of
        # strokes that are farther from one end, or from both.
        self.assertEqual(kinds_that_come(LINE), 20)

    def test_letters_make_kinds(self):
        self.assertEqual(kinds_that_come((((0, 0), (0, 0)), (0,))), kinds_that_come(LINE))
        self.assertGreater(kinds_that_come((((1, 1), (0, 0)), (0,))), kinds_that_come(LINE))

    def test_whether_a_stroke_comes_later(self):
        one, other = (("[", 0, "]", "+", "+", 0), ("+", "+", 0, "-", "-", "[", 0, "]"))
        books = [(((0, 0),), start) for start in (one, other)]
        self.assertEqual([kinds_that_come(book) for book in books], [len(all_plain_kinds(book, 500)) for book in books])

    def test_as_often_as_a_near_stroke_is_there(self):
        # A stroke alone upon another one, or with a third one.
        kinds = [kinds_that_come((((0, 0),), ("[", 0, "]") * many)) for many in (1, 2, 3)]
        self.assertEqual(kinds, sorted(set(kinds)))
        self.assertEqual(kinds, [len(all_plain_kinds((((0, 0),), ("[", 0, "]") * many), 1000)) for many in (1, 2, 3)])

    def test_a_single_stroke(self):
        self.assertEqual(kinds_that_come((((0,) * 40,), (0,))), len(all_plain_kinds((((0,) * 40,), (0,)), 70000)))


class MostDrawn(unittest.TestCase):

    def check(self, call, groups, book, most=1000):
        rows = [groups(strokes) for strokes in drawable(book, most)]
        many, age = call(book)
        with self.subTest(call=call.__name__, book=book):
            if age < len(rows):
                self.assertEqual((many, age), first_greatest(rows))
            else:
                self.assertGreater(many, max(rows))

    def test_against_plain_drawings(self):
        many = 0
        for book in BOOKS + even_books(90, 23, 5):
            if not isinstance(answer(kinds_that_come, book), list):
                self.check(most_drawn, drawn_groups, book)
                self.check(most_ending, ending_groups, book)
                many += 1
        self.assertGreater(many, 30)

    def test_never_twice(self):
        for book in (LINE, SQUARE, FIVE):
            self.assertEqual(most_drawn(book), (1, 0))
        for book in even_books(60, 41, 5):
            found = answer(most_drawn, book)
            if not isinstance(found, list):
                self.assertEqual(found == (1, 0), never_twice(book))

    def test_at_age_0(self):
        self.assertEqual(most_drawn(THERE_AND_BACK), (2, 0))
        self.assertEqual(most_drawn(STACKED), (4, 0))
        self.assertEqual(most_ending(STACKED), (4, 1))
        self.assertEqual(most_ending(THERE_AND_BACK), (2, 1))

    def test_later(self):
        # The last letter's word stands upon itself, and nothing becomes more often the same after it.
        words = ((1, 1), (2, 2), ("[", 3, 3, "]", "[", 3, 3, "]", 3, 3), (3, 3))
        for letter in (0, 1, 2):
            self.assertEqual(most_drawn((words, (letter,))), (3, 3 - letter))
            self.assertEqual(most_ending((words, (letter,))), (3, 3 - letter))

    def test_the_beginning_is_no_end(self):
        self.assertEqual(most_ending(SQUARE), (1, 0))
        self.assertEqual(most_ending((((0, 0),), (0, "+", "+", 0))), (2, 1))
        self.assertEqual(most_ending((((0, 0),), (0, "[", "+", 0, "]", "+", 0))), (2, 0))

    def test_both_ways(self):
        self.assertEqual(most_drawn((((0, 0),), (0, "+", "+", 0, "-", "-", 0))), (3, 0))
        # Between two strokes of a line that is drawn there, back and there again.
        self.assertEqual(most_ending((((0, 0),), (0, "+", "+", 0, "-", "-", 0))), (3, 1))

    def test_kinds(self):
        for call in (most_drawn, most_ending):
            self.assertEqual([tuple, int, int], [type(part) for part in (call(LINE), *call(LINE))])


class Different(unittest.TestCase):

    def test_against_plain_drawings(self):
        many = 0
        for book in BOOKS + [DRAGON, LEVY, THREE, TWICE] + even_books(80, 51):
            for age, strokes in enumerate(drawable(book, 400)):
                with self.subTest(book=book, age=age):
                    self.assertEqual(different_strokes(book, age), plain_strokes_of(strokes))
                    self.assertEqual(different_places(book, age), plain_places_of(strokes))
                many += plain_strokes_of(strokes) < len(strokes)
        self.assertGreater(many, 50)

    def test_more_strokes(self):
        for book in BOOKS + even_books(20, 5, 5):
            for age, strokes in enumerate(drawable(book, 1500)):
                if not isinstance(answer(different_strokes, book, age), list):
                    self.assertEqual(different_strokes(book, age), plain_strokes_of(strokes))
                    self.assertEqual(different_places(book, age), plain_places_of(strokes))

    def test_the_beginning_counts(self):
        self.assertEqual(different_places(LINE, 0), 2)
        self.assertEqual(different_places(SQUARE, 0), 4)
        self.assertEqual(different_places(THERE_AND_BACK, 0), 2)
        self.assertEqual(different_places((((0, 0),), ("[", 0, "]", "+", 0)), 0), 3)

    def test_never_twice(self):
        for book in (LINE, SQUARE, FIVE, PLANT, STRAIGHT):
            for age in (0, 1, 7, 299, 300):
                self.assertEqual(different_strokes(book, age), strokes_in(book, age))

    def test_far_ages(self):
        for age in (0, 5, 100, 300):
            self.assertEqual(different_strokes(THERE_AND_BACK, age), 2 ** age)
            self.assertEqual(different_places(THERE_AND_BACK, age), 2 ** age + 1)
            self.assertEqual(different_strokes(STACKED, age), 2 ** age)
            self.assertEqual(different_places(SQUARE, age), 4 * 2 ** age)
            self.assertEqual(different_places(LINE, age), 2 ** age + 1)
            # A branch at each place between two strokes, as they are at the next age.
            self.assertEqual(different_places((((0, 0),), (0, "[", "+", 0, "]", 0)), age), 3 * 2 ** age + 1)

    def test_ages_ahead_of_a_limit(self):
        # At age 10 the first stroke of the dragon has more than 400 near ones.
        for age in range(10):
            self.assertEqual(different_strokes(DRAGON, age), 2 ** age)
        for call in OF_AN_AGE:
            for age in (10, 11, 300):
                self.assertEqual(answer(call, DRAGON, age), [400])

    def test_kinds(self):
        for call in OF_AN_AGE:
            self.assertIs(int, type(call(LINE, 3)))


class Limits(unittest.TestCase):

    def test_more_than_3000_kinds(self):
        for book in long_books()[2:] + [LEVY]:
            for call in OF_ALL_AGES:
                self.assertEqual(answer(call, book), [3000])

    def test_just_as_many_kinds_as_may_be(self):
        for book in (FIVE, LINE, PLANT):
            many = kinds_that_come(book)
            with mock.patch("strokeonce.crowds.MOST_KINDS", many):
                self.assertEqual(kinds_that_come(book), many)
            with mock.patch("strokeonce.crowds.MOST_KINDS", many - 1):
                for call in OF_ALL_AGES:
                    self.assertEqual(answer(call, book), [many - 1])

    def test_more_than_3000_kinds_at_one_age(self):
        # Ages 0 to 2 have 20, 398 and 8361 strokes.
        book = long_books()[3]
        for call in OF_AN_AGE:
            self.assertIsInstance(call(book, 2), int)
            for age in (3, 4, 300):
                self.assertEqual(answer(call, book, age), [3000])

    def test_more_than_3000_kinds_but_at_no_one_age(self):
        # Of all ages there are more, but not of one of those up to age 12.
        self.assertEqual(answer(kinds_that_come, LEVY), [3000])
        self.assertEqual([different_strokes(LEVY, age) for age in (11, 12)], [1818, 3597])

    def test_just_as_many_kinds_at_one_age_as_may_be(self):
        for book in (FIVE, PLANT, LINE):
            far = book_farness(book)
            many = [len(set(plain_kinds(strokes, far))) for strokes in drawable(book, 800)]
            for age, most in enumerate(many):
                if most == max(many[:age + 1]) and age:
                    with mock.patch("strokeonce.crowds.MOST_KINDS", most):
                        self.assertIsInstance(different_strokes(book, age), int)
                    with mock.patch("strokeonce.crowds.MOST_KINDS", most - 1):
                        for call in OF_AN_AGE:
                            self.assertEqual(answer(call, book, age), [most - 1])

    def test_just_400_near_ones_and_one_more(self):
        # At age 2 a letter 0 has become 14 * 14 strokes, a 1 has become 9, and a 4 has become 10, all near.
        words = (("[", 2, "]") * 12 + (2, 2), ("[", 1, "]", 1, 1), ("[", 3, "]") * 12 + (3, 3), (3, 3),
                 ("[", 3, "]") * 3 + (3, 3))
        start = ("[", 0, "]") * 2
        for last, strokes in ((1, 401), (4, 402)):
            self.assertEqual(strokes_in((words, start + (last,)), 2), strokes)
        for call in OF_AN_AGE:
            self.assertEqual(call((words, start + (1,)), 2), 4 + (call is different_places))
            self.assertEqual(answer(call, (words, start + (4,)), 2), [400])
            self.assertIsInstance(call((words, start + (4,)), 1), int)

    def test_more_than_400_near_ones(self):
        for call in OF_ALL_AGES:
            self.assertEqual(answer(call, CROWDED), [400])
        self.assertEqual([different_strokes(CROWDED, age) for age in range(3)], [1, 2, 4])
        for call in OF_AN_AGE:
            self.assertEqual(answer(call, CROWDED, 3), [400])
            self.assertEqual(answer(call, CROWDED, 300), [400])

    def test_the_limit_that_is_passed_first(self):
        # Age by age, and stroke by stroke: of the dragon there are 1083 kinds ahead of a stroke with more than
        # 400 near ones, and of the other one 3000 ahead of such a stroke.
        for call in OF_ALL_AGES:
            self.assertEqual(answer(call, DRAGON), [400])
            self.assertEqual(answer(call, LEVY), [3000])
        for call in OF_AN_AGE:
            self.assertEqual(answer(call, LEVY, 13), [400])
        with mock.patch("strokeonce.crowds.MOST_KINDS", 1083):
            self.assertEqual(answer(kinds_that_come, DRAGON), [400])
        with mock.patch("strokeonce.crowds.MOST_KINDS", 1000):
            self.assertEqual(answer(kinds_that_come, DRAGON), [1000])

    def test_ages(self):
        for call in OF_AN_AGE:
            call(LINE, 300)
            for age in (301, 400, 1000, -1, True, False, None, "1", (1,), [1], {}, 10 ** 5000):
                with self.assertRaises(BadNumber):
                    call(LINE, age)


class Errors(unittest.TestCase):

    def test_books_that_are_not_even(self):
        for book in UNEVEN:
            for call in OF_ALL_AGES:
                with self.assertRaises(NotEven):
                    call(book)
            for call in OF_AN_AGE:
                with self.assertRaises(NotEven):
                    call(book, 0)
                with self.assertRaises(BadNumber):
                    call(book, 301)

    def test_no_books(self):
        for value in OTHER_VALUES + ((((0, "["),), (0,)), (((0, 0),), ())):
            for call in OF_ALL_AGES:
                with self.assertRaises(BadBook):
                    call(value)
            for call in OF_AN_AGE:
                with self.assertRaises(BadBook):
                    call(value, -1)

    def test_too_many_comes_behind_the_age(self):
        for call in OF_AN_AGE:
            for age in (301, -1, None):
                with self.assertRaises(BadNumber):
                    call(CROWDED, age)


class Times(unittest.TestCase):

    def test_answers_come_soon(self):
        for book in long_books() + [DRAGON, LEVY, THREE, FIVE, SQUARE, PLANT, STRAIGHT, CROWDED]:
            for call, arguments in ((kinds_that_come, ()), (most_drawn, ()), (most_ending, ()),
                                    (different_strokes, (300,)), (different_places, (300,))):
                begun = time.perf_counter()
                answer(call, book, *arguments)
                self.assertLess(time.perf_counter() - begun, SOON)


if __name__ == "__main__":
    unittest.main()
