"""Point 11: two drawings beside each other."""

import random
import time
import unittest
from unittest import mock

from samples import (DRAGON, FARTHEST, FIVE, LEVY, LINE, OTHER_VALUES, PLANT, UNEVEN, WIDE, end, even_books, long_books,
                     moved, near_pairs, plain_farness, plain_multiple, plain_pair, plain_strokes,
                     plain_word, sides, times)
from strokeonce.errors import BadNumber, BadPlace, BadWord, NotEven, TooMany
from strokeonce.sides import never_share, share_age, touch_age

SOON = 10
CALLS = (share_age, touch_age, never_share)
TALL = (((0, "[", "+", 0, 0, 0, "]", 0),), (0,))


def beside(book, word, place, heading, most):
    """For each age that can be drawn the strokes of both drawings, and where the second one begins."""
    words, start = book
    first, second = start, word
    while True:
        ones, others = plain_strokes(first), plain_strokes(second)
        if len(ones) + len(others) > most:
            return
        yield ones, moved(others, place, heading), place
        first, second = plain_word((words, first), 1), plain_word((words, second), 1)
        place = times(place, plain_multiple((words, start + word)))


def shares(ones, others):
    drawn = {frozenset(sides(each)) for each in ones}
    return any([frozenset(sides(each)) in drawn for each in others])


def is_touching(ones, others, place):
    places = {(0, 0)} | {end(each) for each in ones}
    return any([each in places for each in [place] + [end(one) for one in others]])


class Ages(unittest.TestCase):

    def check(self, book, word, place, heading, most=700):
        share = share_age(book, word, place, heading)
        touch = touch_age(book, word, place, heading)
        self.assertIs(never_share(book, word, place, heading), share is None)
        for age, (ones, others, begin) in enumerate(beside(book, word, place, heading, most)):
            if share is None or age <= share:
                self.assertEqual(shares(ones, others), age == share)
            if touch is None or age <= touch:
                self.assertEqual(is_touching(ones, others, begin), age == touch)
        return share, touch

    def test_against_plain_drawings(self):
        source = random.Random(8)
        found = []
        for book in even_books(50, 51) + [DRAGON, LEVY, LINE, PLANT, FIVE]:
            words, start = book
            named = sorted({part for part in start if part in range(9)})
            for _ in range(4):
                word = source.choice([start, (named[0],), words[named[0]], ("-", named[-1], "+", named[0])])
                place = (source.randint(-4, 4), source.randint(-4, 4))
                heading = source.randrange(4)
                with self.subTest(book=book, word=word, place=place, heading=heading):
                    found.append(self.check(book, word, place, heading))
        for index in range(2):
            ages = [pair[index] for pair in found]
            self.assertTrue({None, 0, 1} <= set(ages))

    def test_all_headings(self):
        for heading in range(4):
            for place in ((0, 0), (1, 0), (0, 1), (2, -1), (-2, 2)):
                for book in (DRAGON, LEVY, FIVE):
                    with self.subTest(book=book, place=place, heading=heading):
                        self.check(book, (0,), place, heading)

    def test_lines(self):
        self.assertEqual([share_age(LINE, (0,), (0, 0), heading) for heading in range(4)], [0, None, None, None])
        self.assertEqual([share_age(LINE, (0,), (1, 0), heading) for heading in range(4)], [None, None, 0, None])
        self.assertEqual([touch_age(LINE, (0,), (1, 0), heading) for heading in range(4)], [0, 0, 0, 0])
        self.assertEqual([touch_age(LINE, (0,), (-1, 0), heading) for heading in range(4)], [0, None, None, None])
        self.assertEqual([touch_age(LINE, (0,), (0, -1), heading) for heading in range(4)], [None, 0, None, None])

    def test_later_ages(self):
        for place, heading, expected in (((0, -1), 1, (1, 0)), ((1, -1), 2, (2, 1)), ((0, -1), 2, (3, 2)),
                                         ((-1, -1), 0, (6, 5)), ((0, -1), 0, (7, 6)), ((0, 0), 1, (8, 0))):
            self.assertEqual(self.check(LEVY, (0,), place, heading, 3000), expected)
        self.assertEqual(self.check(PLANT, (0,), (1, 1), 2), (None, 1))
        self.assertEqual(self.check(TALL, (0,), (0, -1), 1), (4, 0))
        self.assertEqual(self.check(DRAGON, (0,), (0, -1), 2), (None, 2))
        # Two lines apart by 1, of which each has branches as soon as the last letter comes to its word.
        words = ((1, 1), (2, 2), ("[", "+") + (2,) * 9 + ("]", 2, 2))
        for letter in range(3):
            _, touch = self.check((words, (letter,)), (letter,), (0, -1), 0)
            self.assertEqual(touch, 3 - letter)

    def test_places_far_away(self):
        for place in ((FARTHEST, FARTHEST), (-FARTHEST, 0), (0, -FARTHEST), (1000, 1000), (30, 0)):
            for heading in range(4):
                for book in (DRAGON, LEVY, FIVE, PLANT):
                    self.assertIsNone(share_age(book, (0,), place, heading))
                    self.assertIsNone(touch_age(book, (0,), place, heading))
                    self.assertIs(never_share(book, (0,), place, heading), True)

    def test_the_beginnings_are_places_too(self):
        self.assertEqual(touch_age(LINE, (0,), (0, 0), 2), 0)
        self.assertEqual(touch_age(LINE, (0,), (1, 1), 3), 0)

    def test_each_drawing_may_draw_twice_by_itself(self):
        self.assertIs(never_share(LEVY, (0,), (9, 9), 0), True)
        self.assertIs(never_share((((0, 0),), (0, "+", "+", 0)), (0, "+", "+", 0), (0, 1), 0), True)

    def test_letters_that_the_book_never_comes_to(self):
        book = (((0, 0), (1, "[", "+", 1, 1, 1, "]", 1), (2, 1)), (0,))
        self.assertEqual(self.check(book, (1,), (0, -1), 0), (None, 1))
        self.check(book, (1,), (0, -1), 1)
        self.check(book, (2,), (0, -2), 0)
        self.check(book, (2, "+", 0, 1), (1, -2), 1)

    def test_dragons_round_one_place(self):
        # Four dragons fill the plane, each stroke drawn once.
        for heading in (1, 2, 3):
            self.assertIs(never_share(DRAGON, (0,), (0, 0), heading), True)
            self.assertEqual(touch_age(DRAGON, (0,), (0, 0), heading), 0)
        self.assertIs(never_share(DRAGON, (0,), (0, 0), 0), False)
        self.assertIs(never_share(LEVY, (0,), (0, 0), 1), False)


class Errors(unittest.TestCase):

    def expect(self, error, *arguments):
        for call in CALLS:
            with self.assertRaises(error):
                call(*arguments)

    def test_no_words_of_the_books_letters(self):
        words = ((), ("+",), (1,), (-1,), (0, "["), (0, "]"), (0, 1), (True,), (0, None), [0], (0,) * 41, ("a",),
                 ((0,),), (10 ** 5000,))
        for word in words + tuple([value for value in OTHER_VALUES if value != (0,)]):
            self.expect(BadWord, LINE, word, (0, 0), 0)
        for word in ((0,) * 40, ("[", 0, "]"), ("+", 0, "[", "]")):
            self.assertEqual(share_age(LINE, word, (0, 0), 0 if word[0] != "+" else 3), 0)

    def test_no_places_and_no_headings(self):
        for place in ((FARTHEST + 1, 0), (0, -FARTHEST - 1), (0,), [0, 0], (0, True), None, "00"):
            self.expect(BadPlace, LINE, (0,), place, 0)
        for heading in (4, -1, 10 ** 5000, True, False, None, "0", (0,), [0], {}):
            self.expect(BadNumber, LINE, (0,), (0, 0), heading)

    def test_several_at_once(self):
        self.expect(BadWord, LINE, None, None, None)
        self.expect(BadWord, UNEVEN[0], (), None, 4)
        self.expect(BadPlace, LINE, (0,), None, None)
        self.expect(BadPlace, UNEVEN[0], (0,), (0, FARTHEST + 1), 4)
        self.expect(BadNumber, UNEVEN[0], (0,), (0, 0), 4)
        self.expect(BadNumber, WIDE, (0,), (0, 0), 4)

    def test_not_even(self):
        for book in UNEVEN:
            self.expect(NotEven, book, (0,), (0, 0), 0)
            self.expect(NotEven, book, (0,), (FARTHEST, 0), 3)

    def test_not_even_with_the_letters_of_the_word(self):
        for other in ((1,), (1, "+", 0), (1, "+", 1, "-"), (0, 2)):
            book = (((0, 0), other, (2, 2, 2)), (0,))
            self.assertEqual(share_age(book, (0,), (0, 0), 0), 0)
            self.expect(NotEven, book, (1,), (0, 0), 0)
            self.expect(NotEven, book, (0, "[", 1, "]"), (0, 0), 0)
        # The last letter stands in the word of one that the word has.
        self.expect(NotEven, (((0, 0), (1, 2), (2,)), (0,)), (1,), (0, 0), 0)
        # Letters that neither of the two comes to do not matter.
        self.assertEqual(share_age((((0, 0), (1, 1), (2,)), (0,)), (1,), (0, 0), 0), 0)

    def test_too_many_pairs(self):
        for call in CALLS:
            with self.assertRaises(TooMany) as caught:
                call(WIDE, (0, 1), (3, 3), 1)
            self.assertEqual(caught.exception.most, 20000)

    def test_a_web_of_too_many_pairs_may_have_few_beside(self):
        for call in (share_age, touch_age):
            self.assertIsNone(call(WIDE, (0, 1), (FARTHEST, 3), 1))


class Pairs(unittest.TestCase):

    def plain_pairs(self, book, word, place, heading, far, most):
        """The near pairs of both drawings at all ages that can be drawn."""
        found = set()
        for ones, others, _ in beside(book, word, place, heading, most):
            for one in ones:
                for other in others:
                    if (one[0] - other[0]) ** 2 + (one[1] - other[1]) ** 2 <= far * far:
                        found.add(plain_pair(one, other))
        return found

    def test_just_the_pairs_of_both_are_counted(self):
        book = (((0, 0), (1, "[", "+", 1, 1, 1, "]", 1)), (0,))
        for word, far in (((0,), 5), ((1,), 9)):
            # A letter of the word's own makes the farness greater.
            letters = sorted({0} | set(word))
            self.assertEqual(plain_farness(book[0], letters, 4), far)
            many = len(self.plain_pairs(book, word, (0, 1), 0, far, 1300))
            self.assertGreater(many, 0)
            for call in CALLS:
                with mock.patch("strokeonce.spinning.MOST_PAIRS", many):
                    call(book, word, (0, 1), 0)
                with mock.patch("strokeonce.spinning.MOST_PAIRS", many - 1), self.assertRaises(TooMany):
                    call(book, word, (0, 1), 0)

    def test_pairs_of_one_drawing_are_not_counted(self):
        self.assertGreater(len(near_pairs(plain_strokes((0,) * 40), 5)), 4)
        with mock.patch("strokeonce.spinning.MOST_PAIRS", 0):
            self.assertIsNone(share_age((((0, 0),), (0,) * 40), (0,) * 40, (0, 6), 0))


class Times(unittest.TestCase):

    def test_answers_come_soon(self):
        for book in long_books() + [DRAGON, FIVE]:
            for place in ((1, 0), (0, 1), (3, -2)):
                begun = time.perf_counter()
                for call in CALLS:
                    call(book, book[1], place, 1)
                self.assertLess(time.perf_counter() - begun, SOON)


if __name__ == "__main__":
    unittest.main()
