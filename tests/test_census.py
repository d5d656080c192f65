"""Point 14: all short books of one letter that are even by their turns."""

import time
import unittest
from itertools import product
from unittest import mock

from strokeonce.census import census
from strokeonce.errors import BadNumber, TooMany
from strokeonce.evens import multiple
from strokeonce.finds import first_twice
from strokeonce.notation import read_book
from strokeonce.webs import meeting_age, never_twice, twice_age

SOON = 10
ORDER = ("", "+", "-")


def book_of(text):
    return read_book(f"start a\na {text}")


def plain_texts(many):
    """The texts by the words of the point, in their order."""
    found = []
    for turns in product(ORDER, repeat=many):
        text = "".join([turn + "a" for turn in turns])
        for last in ORDER:
            whole = text + last
            if whole.count("+") == whole.count("-"):
                x, y = multiple(book_of(whole))
                if x * x + y * y >= 2:
                    found.append(whole)
    return found


class Rows(unittest.TestCase):

    def test_texts_in_order(self):
        for many in (2, 3, 4, 5):
            with self.subTest(many=many):
                self.assertEqual([row[0] for row in census(many)], plain_texts(many))

    def test_how_many(self):
        self.assertEqual([len(census(many)) for many in (2, 3, 4, 5)], [7, 17, 51, 135])

    def test_each_row_against_its_book(self):
        for many in (2, 3, 4, 5):
            for text, place, twice, meets in census(many):
                book = book_of(text)
                with self.subTest(text=text):
                    self.assertEqual(place, multiple(book))
                    self.assertEqual(twice, twice_age(book))
                    self.assertEqual(meets, meeting_age(book))

    def test_of_two_strokes(self):
        self.assertEqual(census(2), (("aa", (2, 0), None, None), ("a+a-", (1, 1), 4, 4), ("a-a+", (1, -1), 4, 4),
                                     ("+aa-", (0, 2), None, None), ("+a-a", (1, 1), 4, 4), ("-aa+", (0, -2), None, None),
                                     ("-a+a", (1, -1), 4, 4)))

    def test_as_many_strokes_as_asked(self):
        for many in (2, 3, 4, 5):
            self.assertEqual({row[0].count("a") for row in census(many)}, {many})

    def test_no_turn_stands_beside_another_one(self):
        for text, _, _, _ in census(5):
            self.assertEqual([pair for pair in ("++", "--", "+-", "-+") if pair in text], [])

    def test_turns_that_come_to_nought_modulo_4_only_are_left_out(self):
        texts = [row[0] for row in census(4)]
        for text in ("+a+a+a+a", "-a-a-a-a", "+a+a+aa+", "-a-aa-a-"):
            self.assertIsNotNone(multiple(book_of(text)))
            self.assertNotIn(text, texts)

    def test_words_that_end_too_near_are_left_out(self):
        texts = [row[0] for row in census(3)]
        for text, place in (("+a-a-a+", (1, 0)), ("-a+a+a-", (1, 0))):
            self.assertEqual(multiple(book_of(text)), place)
            self.assertNotIn(text, texts)

    def test_some_draw_twice_late_and_some_never(self):
        ages = {row[2] for row in census(4)}
        self.assertIn(None, ages)
        self.assertGreater(len(ages), 2)
        for text, _, twice, _ in census(4):
            self.assertEqual(never_twice(book_of(text)), twice is None)
            self.assertEqual((first_twice(book_of(text)) or (None,))[0], twice)

    def test_kinds(self):
        rows = census(3)
        self.assertIs(tuple, type(rows))
        self.assertEqual({(tuple, str, tuple)}, {(type(row), type(row[0]), type(row[1])) for row in rows})


class Errors(unittest.TestCase):

    def test_numbers(self):
        for many in (0, 1, 6, 7, -2, True, False, None, "2", (2,), [2], {2: 2}, 10 ** 5000):
            with self.assertRaises(BadNumber):
                census(many)

    def test_too_many_pairs(self):
        with mock.patch("strokeonce.spinning.MOST_PAIRS", 1000), self.assertRaises(TooMany) as caught:
            census(2)
        self.assertEqual(caught.exception.most, 1000)


class Times(unittest.TestCase):

    def test_soon(self):
        begun = time.perf_counter()
        census(5)
        self.assertLess(time.perf_counter() - begun, SOON)


if __name__ == "__main__":
    unittest.main()
