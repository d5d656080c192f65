"""Point 6: steady and even books, and their multiple."""

import unittest

from samples import (DRAGON, FIVE, LEVY, LINE, PLANT, drawable, even_books, moved, plain_multiple,
                     plain_strokes, plain_walk, random_books, times, trunk)
from strokeonce.ages import end_at
from strokeonce.books import first_ages
from strokeonce.evens import is_steady, multiple


def plain_ends(book):
    words = book[0]
    return {plain_walk(words[letter])[1] for letter, _ in first_ages(book)}


class Steady(unittest.TestCase):

    def steady(self, *words, start=(0,)):
        return is_steady((words, start))

    def test_turns_come_to_nought(self):
        self.assertIs(self.steady((0, "+", 0, "-")), True)
        self.assertIs(self.steady((0,)), True)
        self.assertIs(self.steady((0, "+", 0)), False)
        self.assertIs(self.steady(("-", 0)), False)

    def test_modulo_4_is_enough(self):
        self.assertIs(self.steady((0, "+", "+", "+", "+")), True)
        self.assertIs(self.steady(("-", 0, "-", "-", "-", 0, "-", "-", "-", "-")), True)
        for many in (1, 2, 3, 5, 6, 7):
            self.assertIs(self.steady((0,) + ("+",) * many), False)
            self.assertIs(self.steady((0,) + ("-",) * many), False)

    def test_turns_within_branches_are_left_out(self):
        self.assertIs(self.steady((0, "[", "+", 0, "]")), True)
        self.assertIs(self.steady((0, "+", "[", "-", "]")), False)
        self.assertIs(self.steady(("[", "[", "-", "]", "+", "]", 0)), True)

    def test_letters_that_never_come_do_not_matter(self):
        self.assertIs(self.steady((0,), ("+", 1)), True)
        self.assertIs(self.steady((0,), ("+", 1), start=(0, 1)), False)
        self.assertIs(self.steady((0, "[", 1, "]"), ("+", 1)), False)
        self.assertIs(self.steady((0,), ("+", 2), ("-", 0)), True)

    def test_turns_of_start_do_not_matter(self):
        self.assertIs(self.steady((0,), start=("+", 0, "+", 0, "-", "-", "-")), True)

    def test_each_letter_by_itself(self):
        # Together the turns come to nought, but not those of each word.
        self.assertIs(self.steady((0, "+", 1), (1, "-", 0)), False)

    def test_against_plain_turns(self):
        found = []
        for book in random_books(200):
            trunks = [trunk(book[0][letter]) for letter, _ in first_ages(book)]
            expected = all([(word.count("+") - word.count("-")) % 4 == 0 for word in trunks])
            with self.subTest(book=book):
                self.assertIs(is_steady(book), expected)
            found.append(expected)
        self.assertIn(True, found)
        self.assertIn(False, found)


class Multiples(unittest.TestCase):

    def test_books_of_one_letter(self):
        for book, expected in ((LEVY, (1, 1)), (LINE, (2, 0)), (PLANT, (2, 0)), (FIVE, (3, 0)),
                               ((((0,),), (0,)), (1, 0)), (((("-", 0, 0, "+"),), (0,)), (0, -2))):
            self.assertEqual(multiple(book), expected)
            self.assertIs(tuple, type(multiple(book)))

    def test_books_of_several_letters(self):
        self.assertEqual(multiple(DRAGON), (1, 1))
        self.assertEqual(multiple((((0, 1), (1, "[", "+", 0, 0, "]", 0), (2, 0)), (0, 2))), (2, 0))

    def test_letters_with_unlike_places(self):
        self.assertIsNone(multiple((((0, 0), (1,)), (0, 1))))
        self.assertIsNone(multiple((((0, "+", 0, "-"), (1, "-", 1, "+")), (0, 1))))
        self.assertIsNone(multiple((((0, 1), ("+", 0, 0, "-")), (0,))))

    def test_a_letter_that_never_comes(self):
        self.assertEqual(multiple((((0, 0), (1,)), (0,))), (2, 0))
        self.assertEqual(multiple((((0, 0), (1, "+")), (0, "+", 0))), (2, 0))
        self.assertIsNone(multiple((((0, 1), (1,)), (0,))))

    def test_books_that_are_not_steady(self):
        self.assertIsNone(multiple((((0, "+", 0),), (0,))))
        self.assertIsNone(multiple((((0, "+"),), (0,))))
        # Both words end at (1, 0), the second one with another heading.
        self.assertIsNone(multiple((((0,), (1, "-")), (0, 1))))

    def test_the_place_0_0(self):
        self.assertEqual(multiple((((0, "+", "+", 0, "+", "+"),), (0,))), (0, 0))
        self.assertEqual(multiple(((("[", 0, 0, "]"),), (0,))), (0, 0))
        self.assertIs(is_steady(((("[", 0, "+", "]"),), (0,))), True)

    def test_start_does_not_matter(self):
        self.assertEqual(multiple((((0, 0),), ("+", 0, "[", 0, "]", "+"))), (2, 0))

    def test_against_plain_ends(self):
        for book in random_books(200) + even_books(60):
            ends = plain_ends(book)
            even = len(ends) == 1 and all([pen[2] == 0 for pen in ends])
            with self.subTest(book=book):
                self.assertEqual(multiple(book), plain_multiple(book) if even else None)

    def test_ends_of_ages_are_powers(self):
        # From a start of one stroke the end of each age is that of the age ahead times the multiple.
        for book in even_books(30):
            words = book[0]
            place = (1, 0)
            for age in range(12):
                self.assertEqual(end_at((words, (0,)), age), (*place, 0))
                place = times(place, multiple((words, (0,))))


class NextAges(unittest.TestCase):

    def test_each_stroke_becomes_the_path_of_its_letters_word(self):
        for book in even_books(60) + [LEVY, DRAGON, PLANT, FIVE]:
            words = book[0]
            place = multiple(book)
            self.assertNotEqual(place, (0, 0))
            ages = list(zip(range(6), drawable(book, 1500)))
            for (age, strokes), (_, grown) in zip(ages, ages[1:]):
                expected = []
                for x, y, heading, letter in strokes:
                    expected += moved(plain_strokes(words[letter]), times((x, y), place), heading)
                with self.subTest(book=book, age=age):
                    self.assertEqual(list(grown), expected)


if __name__ == "__main__":
    unittest.main()
