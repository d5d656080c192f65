"""Point 15: books written as text and read from it; point 2 for books that are texts."""

import random
import time
import unittest

from samples import (DRAGON, FIVE, LEVY, LINE, OTHER_VALUES, PLANT, SQUARE, STRAIGHT, THREE, broad_book, chain,
                     even_books, random_books)
from strokeonce.books import first_ages
from strokeonce.errors import BadBook, BadLine, NotText
from strokeonce.notation import read_book, write_book

SOON = 10
BOOKS = random_books(150) + even_books(40) + [LEVY, DRAGON, PLANT, LINE, FIVE, SQUARE, THREE, STRAIGHT, broad_book()]
BOOKS += [chain(many) for many in range(1, 9)]

# No words of the letters a to h.
NO_WORD_TEXTS = ("+", "[]", "[+]", "[a", "a]", "]a[", "[[a]", "[a]]", "i", "ai", "z", "A", "aB", "0", "a0", "a*", "a,b",
                 "a.", "a/", "a\t", "\ta", "a\r", "\u0430", "a\u2212b", "\u00e4", "a\x00", "a" * 41, "+" * 40 + "a",
                 "[a]" * 14, "start", "\u3000", "a\u00a0a", "\ud800", "a" * 10 ** 6)


def spaced(source, text):
    """The text with spaces ahead, between and behind words, and void lines."""
    lines = []
    for line in text.split("\n"):
        lines += [" " * source.randrange(4) for _ in range(source.randrange(3))]
        words = line.split(" ")
        lines.append((" " * source.randint(1, 4)).join(words))
        lines[-1] = " " * source.randrange(3) + lines[-1] + " " * source.randrange(3)
    return "\n".join(lines + [" "] * source.randrange(3))


class Writing(unittest.TestCase):

    def test_lines(self):
        self.assertEqual(write_book(LEVY), "start a\na a+a-")
        self.assertEqual(write_book(PLANT), "start a\na a[+a]a")
        self.assertEqual(write_book(DRAGON), "start a\na a+b-\nb +a-b")
        self.assertEqual(write_book(((tuple(range(8)),) * 8, (7, "-", 0))),
                         "start h-a\n" + "\n".join([f"{letter} abcdefgh" for letter in "abcdefgh"]))

    def test_letters_that_never_come(self):
        self.assertEqual(write_book((((0,), (1, 0)), (0,))), "start a\na a\nb ba")

    def test_no_books(self):
        for value in OTHER_VALUES + ((((0,), (2,)), (0,)), (((0,),), (0,) * 41)):
            with self.assertRaises(BadBook):
                write_book(value)

    def test_a_string(self):
        self.assertIs(str, type(write_book(LINE)))


class Reading(unittest.TestCase):

    def test_there_and_back(self):
        lengths = set()
        for book in BOOKS:
            with self.subTest(book=book):
                self.assertEqual(read_book(write_book(book)), book)
            lengths.add(len(book[0]))
        self.assertEqual(lengths, set(range(1, 9)))

    def test_spaces_and_void_lines(self):
        source = random.Random(3)
        for book in BOOKS:
            for _ in range(5):
                text = spaced(source, write_book(book))
                with self.subTest(text=text):
                    self.assertEqual(read_book(text), book)

    def test_void_lines_anywhere(self):
        for text in ("\n\nstart a\na aa", "start a\n\n  \na aa", "start a\na aa\n", "start a\na aa\n\n \n",
                     "   start    a   \n a aa ", "\nstart a\n\na aa\n"):
            self.assertEqual(read_book(text), LINE)

    def test_letters_come_as_they_do_in_the_book(self):
        self.assertEqual(first_ages(read_book("start b\na c\nb ba\nc c\nd a")), ((0, 1), (1, 0), (2, 2)))

    def test_words_of_40_parts(self):
        self.assertEqual(read_book("start " + "a" * 40 + "\na " + "+" * 39 + "a"),
                         ((("+",) * 39 + (0,),), (0,) * 40))

    def test_kinds(self):
        book = read_book("start a\na [a]a\nb b")
        self.assertEqual({tuple}, {type(each) for each in (book, book[0], book[1], *book[0])})
        self.assertEqual([str, int, str, int], [type(part) for part in book[0][0]])


class NotTexts(unittest.TestCase):

    def test_values_of_all_kinds(self):
        for value in OTHER_VALUES + (["start a\na aa"], ("start a", "a aa"), LINE):
            if not isinstance(value, str):
                with self.assertRaises(NotText):
                    read_book(value)


class BadLines(unittest.TestCase):

    def expect(self, text, line, word):
        with self.assertRaises(BadLine) as caught:
            read_book(text)
        self.assertEqual((caught.exception.line, caught.exception.word), (line, word), text[:99])

    def test_first_words(self):
        for text, line in (("a aa", 1), ("starts a\na aa", 1), ("Start a\na aa", 1), ("start a\nb aa", 2),
                           ("start a\na aa\na aa", 3), ("start a\na aa\nc aa", 3), ("start a\nstart a\na aa", 2),
                           ("start a\na a\nb b\nd a", 4), ("start a\naa a", 2), ("start a\n+ a", 2), ("start a\nA a", 2),
                           ("start a\n0 a", 2), ("start a\nab", 2), ("\tstart a\na a", 1), ("start\ta\na a", 1),
                           ("start a\n\t\na a", 2), ("start a\na a\n\r", 3), ("\ufeffstart a\na a", 1)):
            self.expect(text, line, 1)

    def test_a_ninth_letter(self):
        eight = "start a\n" + "\n".join([f"{letter} a" for letter in "abcdefgh"])
        self.assertEqual(len(read_book(eight)[0]), 8)
        for more in ("i a", "i", "a a", "j a", "i i i", "start"):
            self.expect(eight + "\n" + more, 10, 1)
            self.expect(eight + "\n \n" + more, 11, 1)
        # Also where a line ahead has a letter without a line, which is told later.
        self.expect("start a\n" + "\n".join([f"{letter} a" for letter in "abcdefghi"]), 10, 1)

    def test_second_words_that_are_lacking(self):
        for text, line in (("start", 1), ("start ", 1), ("start\na aa", 1), ("start a\na", 2), ("start a\na  ", 2),
                           ("start a\na a\nb", 3), ("start a\n\na", 3)):
            self.expect(text, line, 2)

    def test_second_words_that_are_no_words(self):
        for text in NO_WORD_TEXTS:
            self.expect(f"start {text}\na aa", 1, 2)
            self.expect(f"start a\na {text}", 2, 2)
            self.expect(f"start a\na a\n\n b {text}", 4, 2)

    def test_words_of_41_parts(self):
        for word in ("a" * 41, "+" * 40 + "a", "[a]" * 13 + "aa"):
            self.expect(f"start {word}\na aa", 1, 2)
            self.expect(f"start a\na {word}", 2, 2)
        self.assertEqual(len(read_book("start a\na " + "[a]" * 13 + "a")[0][0]), 40)

    def test_third_words(self):
        for text, line in (("start a a\na aa", 1), ("start a +", 1), ("start a\na a a", 2), ("start a\na a b c", 2),
                           ("start a\na a\nb b 1", 3), ("start a \ra\na a", 1)):
            self.expect(text, line, 3)

    def test_no_letters_line(self):
        # Void lines are lines, and an empty text is one.
        for text, line in (("start a", 2), ("", 2), (" ", 2), ("\n", 3), ("start a\n", 3), ("\n\nstart abc", 4),
                           ("start h\n\n \n", 5), ("\n\n\n", 5)):
            self.expect(text, line, 1)

    def test_letters_without_a_line(self):
        for text, line in (("start b\na a", 1), ("start a\na ab", 2), ("start a\na a\nb c", 3), ("start h\na a", 1),
                           ("start [b]a\na a", 1), ("start a\na a\nb a\nc abcd", 4), ("\nstart a\n\na h", 4)):
            self.expect(text, line, 2)

    def test_void_lines_count(self):
        self.expect("\n\nstart b\n\na a", 3, 2)
        self.expect(" \nstart a\n \nb a", 4, 1)
        self.expect("start a\n\n\na a a", 4, 3)

    def test_the_first_line_of_several(self):
        self.expect("start +\nb a\na", 1, 2)
        self.expect("start a b\nb\n", 1, 3)
        self.expect("start a\na a\nc d\nb + +", 3, 1)
        self.expect("start a\na\nb a a", 2, 2)

    def test_of_one_line_the_first_word(self):
        self.expect("begin", 1, 1)
        self.expect("begin + +", 1, 1)
        self.expect("start + +", 1, 2)
        self.expect("start a\nb + +", 2, 1)
        self.expect("start a\na i i", 2, 2)

    def test_letters_without_a_line_come_last(self):
        self.expect("start b\na a\nb", 3, 2)
        self.expect("start h\na a\nc a", 3, 1)
        self.expect("start b\na b b", 2, 3)
        # No letter has a line.
        self.expect("start b", 2, 1)
        self.expect("start b\na c", 1, 2)

    def test_kinds_of_the_attributes(self):
        for text in ("", "start", "start a\na b"):
            with self.assertRaises(BadLine) as caught:
                read_book(text)
            self.assertEqual([int, int], [type(caught.exception.line), type(caught.exception.word)])


class Times(unittest.TestCase):

    def test_long_texts(self):
        begun = time.perf_counter()
        self.assertEqual(read_book("\n" * 10 ** 6 + "start a" + " " * 10 ** 6 + "\na aa"), LINE)
        with self.assertRaises(BadLine) as caught:
            read_book("start a\n" + "a a\n" * 10 ** 6)
        self.assertEqual((caught.exception.line, caught.exception.word), (3, 1))
        self.assertLess(time.perf_counter() - begun, SOON)


if __name__ == "__main__":
    unittest.main()
