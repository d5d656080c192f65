"""Point 3: words of ages, strokes, strokes drawn twice, and how large a word may grow."""

import copy
import time
import unittest

from samples import (DRAGON, LEVY, OTHER_VALUES, PLANT, chain, plain_strokes, plain_twice,
                     plain_word, random_books)
from strokeonce.errors import BadBook, BadNumber, StrokeError, TooMany
from strokeonce.pens import drawing, drawn_twice, word_at

TAKING_AN_AGE = (word_at, drawing, drawn_twice)
SOON = 10

# 25 letters become 25 * 12, 25 * 12 * 8 and then 25 * 12 * 8 * 25 = 60000.
JUST_WORDS = ((1,) * 12, (2,) * 8, (3,) * 25, (3,))
JUST = (JUST_WORDS, (0,) * 25)
ONE_MORE = (JUST_WORDS, (0,) * 25 + ("+",))

# 40 letters that never become more, with 39 turns more for each at every age.
TURNING = (((0,) + ("+",) * 39,), (0,) * 40)


def start_only(*word):
    return (((0,), (1,)), word)


class Ages(unittest.TestCase):

    def test_no_ages(self):
        values = (-1, 1001, 10 ** 5000, True, False, None, "", "1", "0", (), (0,), [0], {}, {0: 0})
        for call in TAKING_AN_AGE:
            for number, age in enumerate(values):
                with self.subTest(call=call.__name__, number=number), self.assertRaises(BadNumber):
                    call(LEVY, age)

    def test_ages_at_the_limits(self):
        still = (((0,),), (0, "+", 0))
        for age in (0, 1, 999, 1000):
            self.assertEqual(word_at(still, age), (0, "+", 0))
            self.assertEqual(drawing(still, age), ((0, 0, 0, 0), (1, 0, 1, 0)))
            self.assertIsNone(drawn_twice(still, age))

    def test_a_bad_book_is_told_ahead_of_a_bad_age(self):
        for call in TAKING_AN_AGE:
            for book, letter in ((None, None), (((0,), (0,)), 0), ((((0,),), ()), None)):
                for age in (-1, 1001, True, None, "x", ()):
                    with self.assertRaises(BadBook) as caught:
                        call(book, age)
                    self.assertEqual(caught.exception.letter, letter)

    def test_a_bad_age_is_told_ahead_of_a_word_too_large(self):
        for call in TAKING_AN_AGE:
            with self.assertRaises(BadNumber):
                call(LEVY, 1001)

    def test_values_of_all_kinds_for_all_arguments(self):
        for call in TAKING_AN_AGE:
            for book in OTHER_VALUES:
                for age in OTHER_VALUES:
                    with self.assertRaises(BadBook):
                        call(book, age)


class Words(unittest.TestCase):

    def test_age_0_is_the_start(self):
        for book in (LEVY, DRAGON, PLANT, start_only("-", "[", 1, "]", 0), chain(8)):
            self.assertEqual(word_at(book, 0), book[1])

    def test_turns_and_branches_stay(self):
        book = (((0, "-"),), ("+", "[", 0, "[", "]", "]", "-"))
        self.assertEqual(word_at(book, 3), ("+", "[", 0, "-", "-", "-", "[", "]", "]", "-"))

    def test_branches_grow(self):
        expected = (0, "[", "+", 0, "]", 0, "[", "+", 0, "[", "+", 0, "]", 0, "]", 0, "[", "+", 0, "]", 0)
        self.assertEqual(word_at(PLANT, 2), expected)

    def test_letters_become_others(self):
        book = (((1,), (2, "+"), (0, 1)), (0, 2))
        words = [word_at(book, age) for age in range(4)]
        self.assertEqual(words, [(0, 2), (1, 0, 1), (2, "+", 1, 2, "+"), (0, 1, "+", 2, "+", 0, 1, "+")])

    def test_letters_that_take_turns_for_a_thousand_ages(self):
        book = (((1,), (2,), (0,), (4,), (3,)), (0, "+", 3))
        for age in (998, 999, 1000):
            self.assertEqual(word_at(book, age), (age % 3, "+", 3 + age % 2))

    def test_chains_of_all_lengths(self):
        for many in range(1, 9):
            for age in range(12):
                self.assertEqual(word_at(chain(many), age), (min(age, many - 1),))

    def test_against_words_grown_part_by_part(self):
        for book in random_books(80):
            for age in range(5):
                with self.subTest(book=book, age=age):
                    self.assertEqual(word_at(book, age), plain_word(book, age))


class Drawings(unittest.TestCase):

    def test_each_heading(self):
        left = (0, "+", 0, "+", 0, "+", 0, "+", 1)
        self.assertEqual(
            drawing(start_only(*left), 0),
            ((0, 0, 0, 0), (1, 0, 1, 0), (1, 1, 2, 0), (0, 1, 3, 0), (0, 0, 0, 1)))
        right = (0, "-", 0, "-", 0, "-", 0, "-", 1)
        self.assertEqual(
            drawing(start_only(*right), 0),
            ((0, 0, 0, 0), (1, 0, 3, 0), (1, -1, 2, 0), (0, -1, 1, 0), (0, 0, 0, 1)))

    def test_the_end_of_a_branch_gives_place_and_heading_back(self):
        word = (0, "+", "[", 0, "-", "-", 1, "[", "+", 1, "]", 0, "]", 1, "-", 0)
        self.assertEqual(
            drawing(start_only(*word), 0),
            ((0, 0, 0, 0), (1, 0, 1, 0), (1, 1, 3, 1), (1, 0, 0, 1), (1, 0, 3, 0), (1, 0, 1, 1), (1, 1, 0, 0)))

    def test_a_branch_without_a_stroke(self):
        self.assertEqual(drawing(start_only("[", "+", "]", 1), 0), ((0, 0, 0, 1),))

    def test_an_age_with_branches(self):
        self.assertEqual(drawing(PLANT, 1), ((0, 0, 0, 0), (1, 0, 1, 0), (1, 0, 0, 0)))

    def test_branches_far_within_one_another(self):
        book = (((0,), ("[", 1, 0, "]")), (1, 0))
        strokes = drawing(book, 1000)
        self.assertEqual(strokes[0], (0, 0, 0, 1))
        self.assertEqual(strokes[1:3], ((1, 0, 0, 0), (0, 0, 0, 0)))
        self.assertEqual(len(strokes), 1002)

    def test_against_branches_drawn_by_calls(self):
        for book in random_books(80):
            for age in range(4):
                with self.subTest(book=book, age=age):
                    self.assertEqual(drawing(book, age), plain_strokes(plain_word(book, age)))


class Twice(unittest.TestCase):

    def test_none(self):
        self.assertIsNone(drawn_twice(start_only(0), 0))
        self.assertIsNone(drawn_twice(start_only(0, 0, 0), 0))
        self.assertIsNone(drawn_twice(start_only(0, "+", 0, "+", 0, "+", 0), 0))
        self.assertIsNone(drawn_twice(DRAGON, 10))

    def test_places_come_to_twice_are_not_enough(self):
        self.assertIsNone(drawn_twice(start_only("[", 0, "]", "+", "[", 0, "]", "+", 0), 0))

    def test_the_same_way(self):
        self.assertEqual(drawn_twice(start_only("[", 0, "]", 1), 0), (0, 1))
        self.assertEqual(drawn_twice(start_only("+", "[", 1, 0, "]", 1), 0), (0, 2))

    def test_the_other_way_round(self):
        for turns in (("+", "+"), ("-", "-")):
            for first in ((), ("+",), ("-",), ("+", "+")):
                word = first + (0,) + turns + (1,)
                self.assertEqual(drawn_twice(start_only(*word), 0), (0, 1))

    def test_i_and_j_are_as_small_as_can_be(self):
        # Stroke 3 draws what stroke 2 draws; strokes 4 and 5 what 1 and 0 draw.
        word = (0, 0, 0, "+", "+", 0, 0, 0)
        self.assertEqual(drawn_twice(start_only(*word), 0), (2, 3))
        # The first one to come again draws what the very first one draws.
        word = ("[", 0, 0, 0, "]", 0, 0, 0)
        self.assertEqual(drawn_twice(start_only(*word), 0), (0, 3))

    def test_many_strokes_over_one_another(self):
        word = ("+", 1, "-") + ("[", 0, "]") * 12 + (1,)
        self.assertEqual(drawn_twice(start_only(*word), 0), (1, 2))
        book = (((0, "+", "+", 0, "+", "+"),), (0,))
        for age in range(1, 8):
            self.assertEqual(drawn_twice(book, age), (0, 1))

    def test_an_age_with_the_first_ones(self):
        # Stroke 7 goes down and stroke 8, behind it, goes up.
        self.assertEqual([drawn_twice(LEVY, age) for age in range(6)], [None] * 4 + [(7, 8)] * 2)

    def test_against_all_pairs(self):
        found = []
        for book in random_books(120):
            for age in range(3):
                strokes = plain_strokes(plain_word(book, age))
                with self.subTest(book=book, age=age):
                    self.assertEqual(drawn_twice(book, age), plain_twice(strokes))
                found.append(plain_twice(strokes))
        self.assertIn(None, found)
        self.assertGreater(len([pair for pair in found if pair is not None]), 40)


class TooManyParts(unittest.TestCase):

    def expect_too_many(self, book, age):
        for call in TAKING_AN_AGE:
            with self.subTest(call=call.__name__, age=age):
                begun = time.perf_counter()
                with self.assertRaises(TooMany) as caught:
                    call(book, age)
                self.assertEqual(caught.exception.most, 60000)
                self.assertLess(time.perf_counter() - begun, SOON)

    def test_just_60000_parts(self):
        for age in (3, 4, 1000):
            begun = time.perf_counter()
            self.assertEqual(word_at(JUST, age), (3,) * 60000)
            strokes = drawing(JUST, age)
            self.assertEqual((len(strokes), strokes[-1]), (60000, (59999, 0, 0, 3)))
            self.assertIsNone(drawn_twice(JUST, age))
            self.assertLess(time.perf_counter() - begun, SOON)

    def test_one_part_more(self):
        self.assertEqual(len(word_at(ONE_MORE, 2)), 2401)
        for age in (3, 4, 1000):
            self.expect_too_many(ONE_MORE, age)

    def test_turns_are_parts_too(self):
        self.assertEqual(len(word_at(TURNING, 38)), 59320)
        self.assertEqual(len(drawing(TURNING, 38)), 40)
        self.assertIsNotNone(drawn_twice(TURNING, 38))
        for age in (39, 40, 1000):
            self.expect_too_many(TURNING, age)

    def test_branches_are_parts_too(self):
        book = (((0,) + ("[", "]") * 19,), (0,) * 40)
        self.assertEqual(len(word_at(book, 38)), 40 + 40 * 38 * 38)
        self.expect_too_many(book, 40)

    def test_words_that_grow_quickly(self):
        self.assertEqual(len(word_at((((0,) * 40,), (0,)), 2)), 1600)
        for age in (3, 4, 500, 1000):
            self.expect_too_many((((0,) * 40,), (0,)), age)

    def test_the_same_word_twice_as_long_at_each_age(self):
        book = (((0, 0),), (0,))
        self.assertEqual(len(word_at(book, 15)), 2 ** 15)
        self.expect_too_many(book, 16)

    def test_words_that_grow_slowly(self):
        book = (((0, "+"),), (0,) * 40)
        begun = time.perf_counter()
        self.assertEqual(word_at(book, 1000), ((0,) + ("+",) * 1000) * 40)
        self.assertLess(time.perf_counter() - begun, SOON)

    def test_words_that_grow_late(self):
        words = tuple([(letter + 1,) for letter in range(7)]) + ((7, 7),)
        self.assertEqual(word_at((words, (0,)), 7), (7,))
        self.assertEqual(len(word_at((words, (0,)), 22)), 2 ** 15)
        self.expect_too_many((words, (0,)), 23)

    def test_a_letter_that_never_comes_may_grow_as_it_likes(self):
        book = (((0,), (1,) * 40), (0,))
        self.assertEqual(word_at(book, 1000), (0,))


class Arguments(unittest.TestCase):

    def test_they_are_not_modified(self):
        books = (LEVY, PLANT, [[[0]], [0]], ([[0]], [0]), {0: [0]}, "x", None)
        ages = (2, [0], {0: [1]}, (1, [2]), None)
        for call in TAKING_AN_AGE:
            for book in books:
                for age in ages:
                    kept = copy.deepcopy((book, age))
                    try:
                        call(book, age)
                    except StrokeError:
                        pass
                    self.assertEqual((book, age), kept)

    def test_asked_again_they_answer_the_same(self):
        for call in TAKING_AN_AGE:
            self.assertEqual(call(PLANT, 3), call(PLANT, 3))


class Kinds(unittest.TestCase):

    def test_answers_are_tuples_of_integers_and_signs(self):
        word = word_at(DRAGON, 3)
        self.assertIs(tuple, type(word))
        strokes = drawing(DRAGON, 3)
        self.assertIs(tuple, type(strokes))
        for stroke in strokes:
            self.assertIs(tuple, type(stroke))
            self.assertEqual([type(part) for part in stroke], [int] * 4)
        self.assertIs(tuple, type(drawn_twice(PLANT, 2) or drawn_twice(LEVY, 4)))


if __name__ == "__main__":
    unittest.main()
