"""Point 13: books turned over, turned round, and in longer steps."""

import unittest

from samples import (DRAGON, FIVE, LEVY, LINE, OTHER_VALUES, PLANT, SQUARE, STRAIGHT, THREE, broad_book, chain, drawable,
                     end, even_books, moved, plain_strokes, plain_walk, plain_word, random_books, times)
from strokeonce.ages import strokes_in
from strokeonce.errors import BadBook, BadNumber, Branching, TooMany
from strokeonce.pens import drawing, word_at
from strokeonce.variants import backward, mirrored, sped

BOOKS = random_books(80) + [LEVY, DRAGON, PLANT, LINE, FIVE, SQUARE, THREE]
PATHS = [book for book in BOOKS + even_books(60) if "[" not in sum(book[0], book[1])]


def swapped(word):
    return tuple(["-" if part == "+" else "+" if part == "-" else part for part in word])


class Mirrored(unittest.TestCase):

    def test_all_words_and_start(self):
        self.assertEqual(mirrored((((0, "+", 1), ("-", "[", "+", 1, "]")), ("+", 0, "-", "-"))),
                         (((0, "-", 1), ("+", "[", "-", 1, "]")), ("-", 0, "+", "+")))
        for words, start in BOOKS:
            self.assertEqual(mirrored((words, start)), (tuple([swapped(word) for word in words]), swapped(start)))

    def test_words_of_letters_that_never_come(self):
        self.assertEqual(mirrored((((0,), (1, "+")), (0,))), (((0,), (1, "-")), (0,)))

    def test_twice_is_the_book_itself(self):
        for book in BOOKS + [broad_book(), STRAIGHT]:
            self.assertEqual(mirrored(mirrored(book)), book)

    def test_drawings_are_turned_over(self):
        for book in BOOKS:
            other = mirrored(book)
            for age, strokes in zip(range(6), drawable(book, 1500)):
                with self.subTest(book=book, age=age):
                    self.assertEqual(drawing(other, age), tuple([(x, -y, -heading % 4, letter)
                                                                 for x, y, heading, letter in strokes]))

    def test_no_books(self):
        for value in OTHER_VALUES:
            with self.assertRaises(BadBook):
                mirrored(value)


class Backward(unittest.TestCase):

    def test_all_words_and_start(self):
        self.assertEqual(backward((((0, "+", 1), ("-", 1, 0)), ("+", 0, "-", "-", 1))),
                         (((1, "-", 0), (0, 1, "+")), (1, "+", "+", 0, "-")))
        for words, start in PATHS:
            self.assertEqual(backward((words, start)),
                             (tuple([swapped(word[::-1]) for word in words]), swapped(start[::-1])))

    def test_twice_is_the_book_itself(self):
        for book in PATHS + [STRAIGHT]:
            self.assertEqual(backward(backward(book)), book)

    def test_paths_from_their_end(self):
        many = 0
        for book in PATHS:
            other = backward(book)
            for age, strokes in zip(range(7), drawable(book, 1500)):
                x, y, heading = plain_walk(plain_word(book, age))[1]
                # The pen turns about at the end, and its heading is then taken as 0.
                turned = [(*end(each), each[2] + 2, each[3]) for each in reversed(strokes)]
                there = [(far_x - x, far_y - y, own, letter) for far_x, far_y, own, letter in turned]
                with self.subTest(book=book, age=age):
                    self.assertEqual(list(drawing(other, age)), moved(there, (0, 0), -heading - 2))
                many += len(strokes)
        self.assertGreater(len(PATHS), 40)
        self.assertGreater(many, 10000)

    def test_words_of_ages_are_turned_round(self):
        for book in PATHS:
            for age in range(4):
                self.assertEqual(word_at(backward(book), age), swapped(word_at(book, age)[::-1]))

    def test_branches(self):
        branch = ("[", 0, "]", 0)
        for book in (((branch,), (0,)), (((0,), branch), (0, 1)), (((0,),), branch), PLANT,
                     # Of a letter that never comes.
                     (((0, 0), branch), (0,)),
                     # Without a letter in it.
                     (((0, "[", "]"),), (0,)), (((0,),), ("[", "+", "]", 0)), broad_book()):
            with self.assertRaises(Branching):
                backward(book)

    def test_no_books(self):
        for value in OTHER_VALUES + ((((0, "[", 0, "]"), ()), (0,)), (((0, "["),), (0,))):
            with self.assertRaises(BadBook):
                backward(value)


class Sped(unittest.TestCase):

    def test_words_of_ages(self):
        found = []
        for book in BOOKS:
            words, start = book
            for many in (1, 2, 3, 4):
                grown = tuple([plain_word((words, word), many - 1) for word in words])
                with self.subTest(book=book, many=many):
                    if max([len(word) for word in grown]) > 40:
                        with self.assertRaises(TooMany) as caught:
                            sped(book, many)
                        self.assertEqual(caught.exception.most, 40)
                    else:
                        self.assertEqual(sped(book, many), (grown, start))
                        found.append(many)
                        for age in range(3):
                            if strokes_in(book, age * many) < 3000:
                                self.assertEqual(word_at(sped(book, many), age), word_at(book, age * many))
        self.assertEqual([many for many in (1, 2, 3, 4) if found.count(many) < 10], [])

    def test_one_step_is_the_book_itself(self):
        for book in BOOKS + [broad_book(), STRAIGHT]:
            self.assertEqual(sped(book, 1), book)

    def test_just_40_parts_and_more(self):
        # 1, 2, 4, 8 or 16 letters, and turns.
        self.assertEqual(sped((((0, 0),), (0,)), 4), (((0,) * 16,), (0,)))
        straight = (((1,) * 8, (2,) * 5, (2,)), (0,))
        self.assertEqual(len(sped(straight, 2)[0][0]), 40)
        self.assertEqual(len(sped(straight, 4)[0][0]), 40)
        for words in (((1,) * 8 + ("+",), (2,) * 5, (2,)), ((1,) * 7, (2,) * 6, (2,)), ((1,) * 40, (2, "-"), (2,))):
            with self.assertRaises(TooMany) as caught:
                sped((words, (0,)), 2)
            self.assertEqual(caught.exception.most, 40)

    def test_more_than_40_parts_at_last(self):
        book = (((0, "+", 0), (0,)), (0,))
        self.assertEqual([len(word) for word in sped(book, 4)[0]], [31, 15])
        book = (((0, "+", 0, 1), (1,)), (0,))
        self.assertEqual(len(sped(book, 3)[0][0]), 22)
        with self.assertRaises(TooMany):
            sped(book, 4)

    def test_letters_that_never_come_count_too(self):
        self.assertEqual(sped((((0,), (0, 1)), (0,)), 3), (((0,), (0, 0, 0, 1)), (0,)))
        with self.assertRaises(TooMany):
            sped((((0,), (1,) * 7), (0,)), 2)

    def test_start_stays(self):
        book = (((0, 0),), (0,) * 40)
        self.assertEqual(sped(book, 3), (((0,) * 8,), (0,) * 40))

    def test_letters_that_come_late(self):
        self.assertEqual(sped(chain(8), 4)[0], tuple([(min(letter + 4, 7),) for letter in range(8)]))

    def test_multiples_are_powers(self):
        for book in even_books(30):
            words = book[0]
            place = plain_walk(words[0])[1][:2]
            if max([len(plain_word((words, word), 1)) for word in words]) <= 40:
                self.assertEqual(plain_walk(sped(book, 2)[0][0])[1][:2], times(place, place))

    def test_numbers(self):
        for many in (0, 5, -1, True, False, None, "2", (2,), [2], {}, 10 ** 5000):
            with self.assertRaises(BadNumber):
                sped(LINE, many)
            # A word that would have too many parts is told behind it.
            with self.assertRaises(BadNumber):
                sped(STRAIGHT, many)

    def test_the_book_ahead_of_the_number(self):
        for value in OTHER_VALUES:
            with self.assertRaises(BadBook):
                sped(value, 0)

    def test_the_greatest_books(self):
        for many in (2, 3, 4):
            for book in (STRAIGHT, broad_book()):
                with self.assertRaises(TooMany):
                    sped(book, many)


class Drawn(unittest.TestCase):

    def test_kinds(self):
        for book in (mirrored(LEVY), backward(LEVY), sped(LEVY, 3)):
            words, start = book
            self.assertEqual({tuple}, {type(each) for each in (book, words, start, *words)})
            self.assertEqual(len(plain_strokes(start)), 1)


if __name__ == "__main__":
    unittest.main()
