"""Point 12: rests of far ages, and books that are alike at all ages."""

import time
import unittest

from samples import (DRAGON, FIVE, LEVY, LINE, PLANT, SQUARE, STRAIGHT, THREE, broad_book, chain, even_books,
                     long_books, plain_walk, plain_word, random_books, times, trunk)
from strokeonce.ages import end_at, strokes_in
from strokeonce.books import first_ages
from strokeonce.errors import BadBook, BadNumber, NotSteady
from strokeonce.evens import is_steady
from strokeonce.sums import end_modulo, first_unlike_count, first_unlike_end, strokes_modulo

SOON = 10
FARTHEST = 10 ** 40
GREATEST = 10 ** 18
HEADINGS = ((1, 0), (0, 1), (-1, 0), (0, -1))

STEADY = [book for book in random_books(400) if is_steady(book)] + [DRAGON, FIVE, LEVY, LINE, PLANT, THREE, SQUARE]
UNSTEADY = ((((0, "+", 0),), (0,)), (((0, "-"), (1,)), (0, 1)), (((0, 1), ("+", "+", 1)), (0,)),
            (((0, "[", 1, "]"), (1, "-")), (0,)))
# Its second letter, which would be none of a steady book, never comes.
STEADY_WITHOUT = (((0, "+", 0, "-"), (1, "+")), ("-", 0, 0))


def late(*last):
    """A book of one stroke for 8 ages, of which then the last letter's word stands there."""
    return (chain(8)[0][:7] + (last,), (0,))


def count_round(book, modulus):
    """The rests of the numbers of strokes of ages, and where the round begins again that they go."""
    words, start = book
    counts = tuple([start.count(letter) % modulus for letter in range(len(words))])
    ages = {}
    rests = []
    while counts not in ages:
        ages[counts] = len(rests)
        rests.append(sum(counts) % modulus)
        counts = tuple([sum([many * word.count(letter) for many, word in zip(counts, words)]) % modulus
                        for letter in range(len(words))])
    return rests, ages[counts]


def headings_of(word):
    """The letters of a steady book's word outside of branches, with the heading that each has."""
    heading = 0
    found = []
    for part in trunk(word):
        if part in ("+", "-"):
            heading = (heading + (1 if part == "+" else 3)) % 4
        else:
            found.append((part, heading))
    return found


def end_round(book, modulus):
    """As count_round, for the places at which a steady book ends."""
    words, start = book
    letters = [letter for letter, _ in first_ages(book)]

    def end_of(word, ends):
        places = [times(ends[letter], HEADINGS[heading]) for letter, heading in headings_of(word)]
        return sum([x for x, _ in places]) % modulus, sum([y for _, y in places]) % modulus

    ends = {letter: (1, 0) for letter in letters}
    ages = {}
    rests = []
    while tuple(ends.items()) not in ages:
        ages[tuple(ends.items())] = len(rests)
        rests.append(end_of(start, ends))
        ends = {letter: end_of(words[letter], ends) for letter in letters}
    return rests, ages[tuple(ends.items())]


def rest_at(found, age):
    rests, again = found
    return rests[age] if age < len(rests) else rests[again + (age - again) % (len(rests) - again)]


class Strokes(unittest.TestCase):

    def test_small_ages(self):
        for book in random_books(60) + [LEVY, DRAGON, PLANT, broad_book(), STRAIGHT]:
            for age in (0, 1, 2, 3, 7, 20, 64, 101):
                many = strokes_in(book, age)
                for modulus in (2, 3, 10, 97, 2 ** 30, GREATEST):
                    with self.subTest(book=book, age=age, modulus=modulus):
                        self.assertEqual(strokes_modulo(book, age, modulus), many % modulus)

    def test_powers(self):
        for age in (1000, 10 ** 6 + 1, 10 ** 18, FARTHEST - 1, FARTHEST):
            for modulus in (2, 7, 1000, 10 ** 9 + 7, GREATEST - 11, GREATEST):
                self.assertEqual(strokes_modulo(LINE, age, modulus), pow(2, age, modulus))
                self.assertEqual(strokes_modulo(SQUARE, age, modulus), 4 * pow(2, age, modulus) % modulus)
                self.assertEqual(strokes_modulo(PLANT, age, modulus), pow(3, age, modulus))
                self.assertEqual(strokes_modulo(STRAIGHT, age, modulus), pow(40, age + 1, modulus))

    def test_rounds_of_rests(self):
        for book in random_books(40) + [(((0, 1), (0,)), (0,)), THREE, PLANT]:
            for modulus in (2, 3, 5):
                found = count_round(book, modulus)
                for age in (0, 1, 50, 10 ** 9, FARTHEST - 3, FARTHEST):
                    with self.subTest(book=book, modulus=modulus, age=age):
                        self.assertEqual(strokes_modulo(book, age, modulus), rest_at(found, age))

    def test_letters_that_never_come(self):
        for age in (0, 5, 10 ** 20, FARTHEST):
            self.assertEqual(strokes_modulo((((0,), (1,) * 40), (0, 0, 0)), age, 100), 3)
            self.assertEqual(strokes_modulo((((0, 0), (0, 1)), ("[", 0, "]")), age, GREATEST), pow(2, age, GREATEST))

    def test_books_where_nothing_grows(self):
        for age in (0, 1, FARTHEST):
            self.assertEqual(strokes_modulo((((0, "+"),), (0,) * 7), age, 5), 2)
            self.assertEqual(strokes_modulo(chain(8), age, 2), 1)

    def test_letters_that_come_late(self):
        for age in range(20):
            self.assertEqual(strokes_modulo(late(7, 7), age, GREATEST), 2 ** max(0, age - 7))
        self.assertEqual(strokes_modulo(late(7, 7), FARTHEST, GREATEST), pow(2, FARTHEST - 7, GREATEST))


class Ends(unittest.TestCase):

    def test_small_ages(self):
        found = []
        for book in STEADY + even_books(30) + [STEADY_WITHOUT]:
            for age in (0, 1, 2, 3, 5, 9, 30, 100):
                x, y, _ = end_at(book, age)
                for modulus in (2, 5, 1000, GREATEST):
                    with self.subTest(book=book, age=age, modulus=modulus):
                        self.assertEqual(end_modulo(book, age, modulus), (x % modulus, y % modulus))
            found.append(len(book[0]))
        self.assertGreater(max(found), 2)
        self.assertGreater(len(found), 60)

    def test_against_plain_drawings(self):
        for book in STEADY:
            for age in range(4):
                x, y, _ = plain_walk(plain_word(book, age))[1]
                self.assertEqual(end_modulo(book, age, 1000), (x % 1000, y % 1000))

    def test_rounds_of_rests(self):
        for book in STEADY[:40] + STEADY[-7:]:
            for modulus in (2, 3):
                found = end_round(book, modulus)
                for age in (0, 1, 60, 10 ** 9, FARTHEST - 1, FARTHEST):
                    with self.subTest(book=book, modulus=modulus, age=age):
                        self.assertEqual(end_modulo(book, age, modulus), rest_at(found, age))

    def test_rests_are_not_below_0(self):
        self.assertEqual(end_modulo((((0,),), ("+", "+", 0)), 9, 10), (9, 0))
        self.assertEqual(end_modulo((((0,),), ("-", 0, 0)), FARTHEST, GREATEST), (0, GREATEST - 2))

    def test_powers(self):
        # (1, 1) to the power 8 is (16, 0).
        for modulus in (7, 1000, GREATEST):
            self.assertEqual(end_modulo(LEVY, FARTHEST, modulus), (pow(16, FARTHEST // 8, modulus), 0))
            self.assertEqual(end_modulo(FIVE, FARTHEST, modulus), (pow(3, FARTHEST, modulus), 0))
            self.assertEqual(end_modulo(PLANT, FARTHEST, modulus), (pow(2, FARTHEST, modulus), 0))

    def test_branches_are_left_out(self):
        self.assertEqual(end_modulo((((0, "[", "+", 0, 0, "]"),), (0, "[", 0, "]", "+", 0)), FARTHEST, 9), (1, 1))
        self.assertEqual(end_modulo((((0, 0),), ("[", 0, "]", "+")), FARTHEST, 9), (0, 0))

    def test_turns_modulo_4_are_enough(self):
        self.assertEqual(end_modulo((((0, "+", "+", "+", "+", 0),), (0,)), 10, 10 ** 6), (1024, 0))

    def test_not_steady(self):
        for book in UNSTEADY:
            for age in (0, 1, FARTHEST):
                with self.assertRaises(NotSteady):
                    end_modulo(book, age, 7)
                # strokes_modulo is for all books.
                strokes_modulo(book, age, 7)

    def test_not_steady_comes_behind_the_arguments(self):
        for age, modulus in ((-1, 7), (FARTHEST + 1, 7), (None, 7), (3, 1), (3, GREATEST + 1), (3, None), (True, True)):
            with self.assertRaises(BadNumber):
                end_modulo(UNSTEADY[0], age, modulus)

    def test_kinds(self):
        self.assertIs(int, type(strokes_modulo(PLANT, 5, 7)))
        self.assertEqual([tuple, int, int], [type(part) for part in (end_modulo(PLANT, 5, 7), *end_modulo(PLANT, 5, 7))])


class Limits(unittest.TestCase):

    def test_ages(self):
        for call in (strokes_modulo, end_modulo):
            for age in (0, 1001, FARTHEST):
                call(LINE, age, 7)
            for age in (FARTHEST + 1, -1, True, False, None, "1", (1,), [], {}, 10 ** 5000):
                with self.assertRaises(BadNumber):
                    call(LINE, age, 7)

    def test_moduli(self):
        for call in (strokes_modulo, end_modulo):
            for modulus in (2, 3, GREATEST - 1, GREATEST):
                call(LINE, 9, modulus)
            for modulus in (0, 1, -1, -2, GREATEST + 1, True, False, None, "7", (7,), [7], {}, 10 ** 5000):
                with self.assertRaises(BadNumber):
                    call(LINE, 9, modulus)

    def test_the_book_ahead_of_numbers(self):
        for call in (strokes_modulo, end_modulo):
            with self.assertRaises(BadBook) as caught:
                call((((0,), ()), (0,)), -1, 0)
            self.assertEqual(caught.exception.letter, 1)


def plain_unlike(firsts, seconds):
    for age, (first, second) in enumerate(zip(firsts, seconds)):
        if first != second:
            return age
    return None


class UnlikeCounts(unittest.TestCase):

    def test_ages_one_behind_the_other(self):
        books = random_books(40) + [LEVY, DRAGON, LINE, PLANT, STRAIGHT]
        found = []
        counts = {book: [strokes_in(book, age) for age in range(40)] for book in books}
        for one in books:
            for other in books:
                expected = plain_unlike(counts[one], counts[other])
                with self.subTest(one=one, other=other):
                    self.assertEqual(first_unlike_count(one, other), expected)
                found.append(expected)
        self.assertTrue({None, 0, 1, 2} <= set(found))

    def test_alike_at_all_ages(self):
        for one, other in ((LEVY, LINE), (DRAGON, LINE), (DRAGON, LEVY), (PLANT, (((0, 0, 0),), (0,))),
                           (LINE, (((1, 1), (2, 0), (0, 1)), (2,))), (STRAIGHT, (((0,) * 40,), (0,) * 40)),
                           ((((0, 1), (0,)), (1,)), (((1,), (1, 0)), (0,))), (chain(8), chain(1)),
                           (((tuple(range(8)),) * 8, (3,)), (((0,) * 8,), (0,)))):
            self.assertIsNone(first_unlike_count(one, other))
            self.assertIsNone(first_unlike_count(other, one))
            self.assertIsNone(first_unlike_count(one, one))

    def test_unlike_at_age_0(self):
        self.assertEqual(first_unlike_count(LINE, SQUARE), 0)
        self.assertEqual(first_unlike_count((((0,),), (0, 0)), (((0,),), (0,))), 0)

    def test_alike_for_many_ages(self):
        for many in range(1, 9):
            words = chain(many)[0]
            book = (words[:-1] + ((many - 1,) * 2,), (0,))
            self.assertEqual(first_unlike_count(book, chain(1)), many)
            self.assertEqual(first_unlike_count(chain(8), book), many)

    def test_as_late_as_can_be(self):
        # For as many ages as both have letters together, but for one, two books of 8 are alike.
        self.assertEqual(first_unlike_count(late(0, 0), late(0, 1)), 15)
        self.assertEqual(first_unlike_count(late(1, 0), late(0, 0)), 15)
        self.assertEqual(first_unlike_count(late(0, 2), late(1, 1)), 14)
        self.assertIsNone(first_unlike_count(late(0, 1), late(1, "+", "[", 0, "]")))

    def test_letters_that_never_come(self):
        self.assertIsNone(first_unlike_count((((0, 0), (1,) * 9), (0,)), LINE))

    def test_books_that_are_none(self):
        bad = (((0,), (0,), ()), (0,))
        worse = (((),), (0,))
        for one, other, letter in ((bad, LINE, 2), (LINE, bad, 2), (bad, worse, 2), (worse, bad, 0), (None, bad, None)):
            for call in (first_unlike_count, first_unlike_end):
                with self.assertRaises(BadBook) as caught:
                    call(one, other)
                self.assertEqual(caught.exception.letter, letter)


class UnlikeEnds(unittest.TestCase):

    def test_ages_one_behind_the_other(self):
        found = []
        books = STEADY[:30] + STEADY[-7:] + even_books(10)
        ends = {book: [end_at(book, age)[:2] for age in range(40)] for book in books}
        for one in books:
            for other in books:
                expected = plain_unlike(ends[one], ends[other])
                with self.subTest(one=one, other=other):
                    self.assertEqual(first_unlike_end(one, other), expected)
                found.append(expected)
        self.assertTrue({None, 0, 1, 2} <= set(found))

    def test_alike_at_all_ages(self):
        for one, other in ((LINE, PLANT), (LEVY, DRAGON), (FIVE, (((0, 0, 0),), (0,))),
                           (SQUARE, (((0, "[", 0, "]"),), ("[", 0, "]"))), (LINE, (((0, 0), (1, "+")), (0,)))):
            self.assertIsNone(first_unlike_end(one, other))
            self.assertIsNone(first_unlike_end(other, one))

    def test_headings_do_not_matter(self):
        for turns in (("+",), ("-", "-")):
            self.assertIsNone(first_unlike_end(LINE, (((0, 0),), (0,) + turns)))

    def test_unlike_at_age_0(self):
        for start in ((0, 0), ("+", 0), ("[", 0, "]"), ("+", "+", 0)):
            self.assertEqual(first_unlike_end(LINE, (((0, 0),), start)), 0)

    def test_x_alone_and_y_alone(self):
        self.assertEqual(first_unlike_end(LINE, (((0, 0, 0),), (0,))), 1)
        self.assertEqual(first_unlike_end(LINE, (((0, 0, "+", 0, "-"),), (0,))), 1)

    def test_as_late_as_can_be(self):
        self.assertEqual(first_unlike_end(late(0, 0), late(0, 1)), 15)
        self.assertEqual(first_unlike_end(late(0, "+", 0, "-"), late(0, "+", 1, "-")), 15)
        self.assertEqual(first_unlike_end(late(7, "[", 7, "]"), late(7, 7)), 8)

    def test_not_steady(self):
        for book in UNSTEADY:
            for one, other in ((book, LINE), (LINE, book), (book, book)):
                with self.assertRaises(NotSteady):
                    first_unlike_end(one, other)
                first_unlike_count(one, other)

    def test_not_steady_comes_behind_both_books(self):
        with self.assertRaises(BadBook) as caught:
            first_unlike_end(UNSTEADY[0], (((0,), None), (0,)))
        self.assertEqual(caught.exception.letter, 1)


class Times(unittest.TestCase):

    def soon(self, call, *arguments):
        begun = time.perf_counter()
        call(*arguments)
        self.assertLess(time.perf_counter() - begun, SOON)

    def test_far_ages_answer_soon(self):
        for book in long_books() + [STRAIGHT]:
            for call in (strokes_modulo, end_modulo):
                self.soon(call, book, FARTHEST, GREATEST)
                self.soon(call, book, FARTHEST - 1, GREATEST - 1)
        self.soon(strokes_modulo, broad_book(), FARTHEST, GREATEST)

    def test_books_answer_soon(self):
        books = long_books() + [STRAIGHT]
        for one in books:
            for other in books:
                self.soon(first_unlike_count, one, other)
                self.soon(first_unlike_end, one, other)


if __name__ == "__main__":
    unittest.main()
