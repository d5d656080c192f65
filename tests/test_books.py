"""Point 2: words, books, and the letters that come."""

import copy
import unittest

from samples import OTHER_VALUES, chain, plain_word, random_books
from strokeonce.ages import area_at, end_at, stroke, strokes_in, turns_at
from strokeonce.books import first_ages
from strokeonce.counts import meeting_pairs, twice_pairs
from strokeonce.crowds import different_places, different_strokes, kinds_that_come, most_drawn, most_ending
from strokeonce.desk import Desk
from strokeonce.errors import BadBook, Branching, NotEven, NotSteady
from strokeonce.evens import is_steady, multiple
from strokeonce.finds import first_meeting, first_twice
from strokeonce.notation import write_book
from strokeonce.pens import drawing, drawn_twice, word_at
from strokeonce.pictures import first_coming, picture, touching
from strokeonce.sides import never_share, share_age, touch_age
from strokeonce.sums import end_modulo, first_unlike_count, first_unlike_end, strokes_modulo
from strokeonce.variants import backward, mirrored, sped
from strokeonce.webs import (meeting_age, never_meets, never_twice, shows_never_twice, twice_age, web)
from strokeonce.windows import box, strokes_at, window

# The arguments behind the book are right ones.
TAKING_A_BOOK = (
    first_ages,
    lambda book: word_at(book, 0),
    lambda book: drawing(book, 0),
    lambda book: drawn_twice(book, 0),
    lambda book: strokes_in(book, 0),
    lambda book: end_at(book, 0),
    lambda book: turns_at(book, 0),
    lambda book: area_at(book, 0),
    lambda book: stroke(book, 0, 0),
    lambda book: box(book, 0),
    lambda book: window(book, 0, (0, 0), (0, 0)),
    lambda book: strokes_at(book, 0, (0, 0)),
    is_steady,
    multiple,
    web,
    never_twice,
    never_meets,
    twice_age,
    meeting_age,
    lambda book: shows_never_twice(book, ()),
    first_twice,
    first_meeting,
    lambda book: twice_pairs(book, 0),
    lambda book: meeting_pairs(book, 0),
    lambda book: share_age(book, (0,), (0, 0), 0),
    lambda book: touch_age(book, (0,), (0, 0), 0),
    lambda book: never_share(book, (0,), (0, 0), 0),
    lambda book: strokes_modulo(book, 0, 2),
    lambda book: end_modulo(book, 0, 2),
    lambda book: first_unlike_count(book, (((0,),), (0,))),
    lambda book: first_unlike_count((((0,),), (0,)), book),
    lambda book: first_unlike_end(book, (((0,),), (0,))),
    lambda book: first_unlike_end((((0,),), (0,)), book),
    mirrored,
    backward,
    lambda book: sped(book, 1),
    write_book,
    Desk,
    lambda book: picture(book, 0, (0, 0), (0, 0)),
    lambda book: touching(book, 0, 0),
    lambda book: first_coming(book, (0, 0), 0),
    kinds_that_come,
    most_drawn,
    most_ending,
    lambda book: different_strokes(book, 0),
    lambda book: different_places(book, 0),
)

# No words of two letters, for the reason that is told.
NO_WORDS = (
    ("no letter", ("+",)),
    ("no part", ()),
    ("no letter, but a branch", ("[", "+", "]")),
    ("a branch not ended", ("[", 0)),
    ("a branch not ended within one", ("[", "[", 0, "]")),
    ("an end of no branch", (0, "]")),
    ("an end ahead of its beginning", (0, "]", "[")),
    ("an end too many", ("[", 0, "]", "]")),
    ("a letter without a word", (2,)),
    ("a letter without a word, behind one with", (0, 2)),
    ("a letter below 0", (0, -1)),
    ("a great number", (0, 10 ** 5000)),
    ("True", (True,)),
    ("False", (0, False)),
    ("True in a branch", (0, "[", True, "]")),
    ("None as a part", (0, None)),
    ("another sign", (0, "*")),
    ("a letter's sign", ("a",)),
    ("a figure", (0, "0")),
    ("two signs in one", (0, "++")),
    ("a branch in one", (0, "[]")),
    ("a void string", (0, "")),
    ("a sign and a space", (0, "+ ")),
    ("a tuple as a part", (0, (0,))),
    ("a list as a part", (0, [0])),
    ("a dict as a part", (0, {0: 0})),
    ("41 parts", (0,) * 41),
    ("41 parts with signs", ("[", 0, "]") + ("+",) * 38),
    ("a list", [0]),
    ("a dict", {0: 0}),
    ("a string", "a"),
    ("a number", 0),
    ("True itself", True),
    ("None itself", None),
)

WORDS = (
    (0,), (1,), (0, 1), ("+", 0), (0, "-"), ("[", 0, "]"), ("[", "]", 0), ("[", "[", 1, "]", "-", "]"),
    ("[", 0, "]", "[", "]", "+"), (0,) * 40, ("[",) * 19 + (0, 1) + ("]",) * 19,
)


def letter_of(call, value):
    """The letter that BadBook tells for a value, in a list; an empty one for no BadBook."""
    try:
        call(value)
    except BadBook as error:
        return [error.letter]
    except (NotEven, NotSteady, Branching):
        pass
    return []


def numbers_in(word):
    return {part for part in word if isinstance(part, int)}


class BadBooks(unittest.TestCase):

    def expect(self, value, letters):
        for call in TAKING_A_BOOK:
            self.assertEqual(letter_of(call, value), letters)

    def test_words_are_allowed(self):
        for word in WORDS:
            with self.subTest(word=word):
                self.expect(((word, (0,)), (0,)), [])
                self.expect((((0,), word), (0,)), [])
                self.expect((((0,), (1,)), word), [])

    def test_no_words_of_letters_tell_the_letter(self):
        for why, word in NO_WORDS:
            with self.subTest(why=why):
                self.expect(((word, (0,)), (0,)), [0])
                self.expect((((0,), word), (0,)), [1])

    def test_no_word_as_start_tells_none(self):
        for why, word in NO_WORDS:
            with self.subTest(why=why):
                self.expect((((0,), (1,)), word), [None])

    def test_the_first_letter_is_told(self):
        for many in range(1, 9):
            for letter in range(many):
                words = ((0,),) * letter + ((),) * (many - letter)
                with self.subTest(many=many, letter=letter):
                    self.expect((words, (0,)), [letter])

    def test_a_letter_is_told_ahead_of_the_start(self):
        self.expect((((0,), ("+",)), ()), [1])
        self.expect((([0],), None), [0])
        self.expect(((0,), (0,)), [0])

    def test_a_letter_that_never_comes_needs_a_word_too(self):
        self.expect((((0,), None, (1,)), (0,)), [1])

    def test_numbers_of_letters(self):
        for many, letters in ((0, [None]), (1, []), (2, []), (7, []), (8, []), (9, [None]), (10, [None])):
            with self.subTest(many=many):
                self.expect((((0,),) * many, (0,)), letters)

    def test_each_letter_needs_a_word_of_its_own(self):
        for many in range(1, 9):
            with self.subTest(many=many):
                self.expect((((many - 1,),) * many, (many - 1,)), [])
                self.expect((((0,),) * (many - 1) + ((many,),), (0,)), [many - 1])
                self.expect((((0,),) * many, (many,)), [None])

    def test_values_of_another_form(self):
        for number, value in enumerate(OTHER_VALUES):
            with self.subTest(number=number):
                self.expect(value, [None])

    def test_words_of_another_form(self):
        for words in (0, "a", "ab", True, None, [(0,)], {0: (0,)}, {}, []):
            with self.subTest(words=words):
                self.expect((words, (0,)), [None])

    def test_lists_for_tuples(self):
        self.expect([((0,),), (0,)], [None])
        self.expect(([(0,)], (0,)), [None])
        self.expect((([0],), (0,)), [0])
        self.expect((((0,),), [0]), [None])

    def test_pairs_and_no_others(self):
        self.expect((((0,),),), [None])
        self.expect((((0,),), (0,), (0,)), [None])
        self.expect((((0,),), (0,), None), [None])

    def test_words_of_40_and_41_parts(self):
        for fill in (0, "+", "-"):
            with self.subTest(fill=fill):
                self.expect((((0,) + (fill,) * 39,), (0,)), [])
                self.expect((((0,) + (fill,) * 40,), (0,)), [0])
                self.expect((((0,),), (0,) + (fill,) * 39), [])
                self.expect((((0,),), (0,) + (fill,) * 40), [None])


class FirstAges(unittest.TestCase):

    def test_chains_of_all_lengths(self):
        for many in range(1, 9):
            with self.subTest(many=many):
                expected = tuple([(letter, letter) for letter in range(many)])
                self.assertEqual(first_ages(chain(many)), expected)

    def test_ascending_by_letter_whatever_the_age(self):
        words = ((0,), (0,), (1,), (2,))
        self.assertEqual(first_ages((words, (3,))), ((0, 3), (1, 2), (2, 1), (3, 0)))

    def test_letters_that_never_come(self):
        words = ((0, "+"), (0, 2), (3, 1), (3,))
        self.assertEqual(first_ages((words, (0,))), ((0, 0),))
        self.assertEqual(first_ages((words, (3, "-", 0))), ((0, 0), (3, 0)))

    def test_letters_that_go_again(self):
        self.assertEqual(first_ages((((1,), (2,), (1,)), (0,))), ((0, 0), (1, 1), (2, 2)))

    def test_the_first_of_several_ages(self):
        words = ((1, 2), (3,), (2,), (2, 3))
        self.assertEqual(first_ages((words, (0, 3))), ((0, 0), (1, 1), (2, 1), (3, 0)))

    def test_letters_only_within_branches(self):
        words = ((0, "[", "+", "[", 1, "]", "]"), ("[", 2, "]"), (2,), (3,))
        self.assertEqual(first_ages((words, ("[", 0, "]"))), ((0, 0), (1, 1), (2, 2)))

    def test_many_ways_to_one_letter_are_soon_gone(self):
        words = tuple([(min(letter + 1, 7),) * 40 for letter in range(8)])
        expected = tuple([(letter, letter) for letter in range(8)])
        self.assertEqual(first_ages((words, (0,) * 40)), expected)

    def test_against_letters_followed_age_by_age(self):
        for book in random_books(60):
            words, start = book
            ages = {}
            letters = numbers_in(start)
            for age in range(len(words)):
                for letter in letters:
                    ages.setdefault(letter, age)
                letters = set().union(*[numbers_in(words[letter]) for letter in letters])
            with self.subTest(book=book):
                self.assertEqual(first_ages(book), tuple(sorted(ages.items())))

    def test_against_grown_words(self):
        for book in random_books(60):
            stand = [numbers_in(plain_word(book, age)) for age in range(4)]
            for letter, age in first_ages(book):
                with self.subTest(book=book, letter=letter):
                    self.assertEqual([letter in letters for letters in stand[:age + 1]],
                                     ([False] * age + [True])[:4])

    def test_arguments_are_not_modified(self):
        for value in ([[[0]], [0]], {0: [0]}, (((0, "+", 1), (1,)), (0,)), (([0],), [0])):
            kept = copy.deepcopy(value)
            letter_of(first_ages, value)
            self.assertEqual(value, kept)


if __name__ == "__main__":
    unittest.main()
