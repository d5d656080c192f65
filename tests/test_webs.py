"""Points 7 to 9: the web of near pairs, what it tells of all ages, and what shows it."""

import random
import time
import unittest
from unittest import mock

from samples import (DRAGON, FIVE, LEVY, LINE, OTHER_VALUES, PLANT, SAMPLES, SHORT, SQUARE, THREE, UNEVEN, WIDE,
                     book_farness, drawable, end, even_books, long_books, moved, near_pairs,
                     plain_multiple, plain_pair, plain_strokes, sides, times)
from strokeonce.books import first_ages
from strokeonce.errors import BadBook, NotEven, TooMany
from strokeonce.webs import (meeting_age, never_meets, never_twice, shows_never_twice, twice_age, web)

SOON = 10

# A word that goes far round to end beside where it begins.
ROUND = (((0,) * 5 + ("+", 0, "+") + (0,) * 4 + ("+", "+"),), (0,))

# All of these answer from the book alone.
TAKING_A_BOOK = (web, never_twice, twice_age, never_meets, meeting_age)


def pairs_of(book):
    return tuple([row[:5] for row in web(book)])


def first_ages_of_pairs(book, most):
    """The near pairs of each drawable age with the first age, and the last such age."""
    far = book_farness(book)
    found = {}
    last = -1
    for age, strokes in enumerate(drawable(book, most)):
        last = age
        for pair in near_pairs(strokes, far):
            found.setdefault(pair, age)
    return found, last


def comes_again(strokes):
    """Whether a place is come to twice, by its words."""
    places = [(0, 0)] + [end(each) for each in strokes]
    return len(set(places)) < len(places)


def is_twice(strokes):
    return len({frozenset(sides(each)) for each in strokes}) < len(strokes)


class Webs(unittest.TestCase):

    def check(self, book, most):
        found, last = first_ages_of_pairs(book, most)
        rows = web(book)
        early = {row[:5]: row[5] for row in rows if row[5] <= last}
        self.assertEqual(early, found)
        self.assertEqual(rows, tuple(sorted(rows)))
        self.assertEqual(len({row[:5] for row in rows}), len(rows))

    def test_against_plain_drawings(self):
        for book in SAMPLES + tuple(even_books(40)):
            with self.subTest(book=book):
                self.check(book, 260)

    def test_to_the_last_pair(self):
        # The drawings hold all pairs of these webs.
        for book, most in ((FIVE, 700), (LINE, 130), (SQUARE, 300), (SHORT, 800)):
            with self.subTest(book=book):
                self.check(book, most)
                found, _ = first_ages_of_pairs(book, most)
                self.assertEqual(len(web(book)), len(found))

    def test_books_of_several_letters(self):
        self.check(THREE, 520)
        self.check(DRAGON, 520)

    def test_a_line(self):
        # The farness is 5: twice 5 is more than 5 and twice 2, and twice 4 is not.
        self.assertEqual(web(LINE), ((1, 0, 0, 0, 0, 1), (2, 0, 0, 0, 0, 2), (3, 0, 0, 0, 0, 2),
                                     (4, 0, 0, 0, 0, 3), (5, 0, 0, 0, 0, 3)))

    def test_a_start_of_one_stroke_has_no_pair_at_age_0(self):
        for book in (DRAGON, LEVY, PLANT):
            self.assertEqual([row for row in web(book) if row[5] == 0], [])

    def test_pairs_of_start(self):
        rows = [row for row in web(SQUARE) if row[5] == 0]
        self.assertEqual(rows, [(0, 1, 0, 3, 0, 0), (1, 0, 0, 1, 0, 0), (1, 1, 0, 2, 0, 0)])

    def test_the_second_stroke_as_seen_from_the_first(self):
        book = (((0, 0), (1, 1)), ("+", 0, 0, "+", "[", 1, "]", 1))
        rows = [row for row in web(book) if row[5] == 0]
        self.assertEqual(rows, [(0, 0, 1, 0, 1, 0), (1, 0, 0, 0, 0, 0), (1, 0, 0, 1, 1, 0), (2, 0, 0, 1, 1, 0)])

    def test_pairs_of_one_stroke_come_an_age_behind_their_letter(self):
        book = (((1, 1), (2, 2), (3, 3), (3, 3)), (0,))
        ages = {row[2:5]: row[5] for row in web(book) if row[:2] == (1, 0)}
        self.assertEqual(ages, {(1, 0, 1): 1, (2, 0, 2): 2, (3, 0, 3): 3})

    def test_letters_that_never_come_do_not_matter(self):
        book = (((0, 0), (1, "+", 0), (2,)), (0,))
        self.assertEqual(web(book), web(LINE))

    def test_nothing_to_be_near(self):
        # A word of 4 strokes that lie over one another but for the last one.
        book = (((0, 0, 0, 0),), (0,))
        self.assertEqual(web(book), ((1, 0, 0, 0, 0, 1), (2, 0, 0, 0, 0, 1), (3, 0, 0, 0, 0, 1)))

    def test_rows_are_tuples_of_integers(self):
        rows = web(PLANT)
        self.assertIs(tuple, type(rows))
        self.assertEqual({(tuple,) + (int,) * 6}, {(type(row), *map(type, row)) for row in rows})


class Farness(unittest.TestCase):

    def greatest(self, book):
        return max([row[0] * row[0] + row[1] * row[1] for row in web(book)])

    def test_least_multiples(self):
        # u * u + v * v is just 2 and w is 2: 2 * 10 * 10 is above 14 * 14, 2 * 9 * 9 not above 13 * 13.
        for book in (DRAGON, LEVY, THREE):
            self.assertEqual(plain_multiple(book), (1, 1))
            self.assertEqual(book_farness(book), 10)
            self.assertEqual(self.greatest(book), 100)

    def test_a_great_multiple(self):
        book = (((0,) * 40,), (0,))
        self.assertEqual(book_farness(book), 3)
        self.assertEqual([row[:2] for row in web(book)], [(1, 0), (2, 0), (3, 0)])

    def test_words_that_go_far_round(self):
        self.assertEqual(plain_multiple(ROUND), (1, 1))
        found, last = first_ages_of_pairs(ROUND, 500)
        self.assertEqual(book_farness(ROUND), 29)
        rows = web(ROUND)
        self.assertEqual({row[:5]: row[5] for row in rows if row[5] <= last}, found)

    def test_branches_count_for_the_reach(self):
        longer = (((0, "[", "+", 0, 0, 0, "]", 0),), (0,))
        self.assertEqual(book_farness(longer), 9)
        self.assertEqual(self.greatest(longer), 81)
        self.assertEqual(book_farness(PLANT), 5)

    def test_start_does_not_count_for_the_reach(self):
        self.assertEqual(max([row[0] for row in web((((0, 0),), (0,) * 40))]), 5)


class Ages(unittest.TestCase):

    def test_against_plain_drawings(self):
        for book in SAMPLES + tuple(even_books(60, 5)):
            twice, meets = twice_age(book), meeting_age(book)
            with self.subTest(book=book):
                self.assertIs(never_twice(book), twice is None)
                self.assertIs(never_meets(book), meets is None)
                for age, strokes in enumerate(drawable(book, 3000)):
                    if twice is None or age <= twice:
                        self.assertEqual(is_twice(strokes), age == twice)
                    if meets is None or age <= meets:
                        self.assertEqual(comes_again(strokes), age == meets)

    def test_at_age_0(self):
        self.assertEqual(twice_age((((0, 0),), (0, "+", "+", 0))), 0)
        self.assertEqual(twice_age((((0, 0),), ("[", 0, "]", 0))), 0)
        self.assertEqual(twice_age((((0, 0),), ("[", 0, 0, "]", "+", "[", 0, "]", "-", 0))), 0)

    def test_later(self):
        self.assertEqual(twice_age(LEVY), 4)
        self.assertEqual(twice_age((((1, 1), (1, "[", 1, "]", 1)), (0,))), 2)
        # Only from the fourth age on the last letter's word stands there.
        chain = ((1, 1), (2, 2), (3, 3), ("[", 3, "]", 3, 3))
        for letter in range(4):
            self.assertEqual(twice_age((chain, (letter,))), 4 - letter)

    def test_never(self):
        for book in (DRAGON, FIVE, LINE, SQUARE):
            self.assertIsNone(twice_age(book))
            self.assertIs(never_twice(book), True)
        self.assertIs(never_twice(LEVY), False)

    def test_both_ways(self):
        for turns in (("+", "+"), ("-", "-")):
            self.assertEqual(twice_age((((0, 0),), (0,) + turns + (0,))), 0)
        # Right behind one another, but not over one another.
        self.assertIsNone(twice_age((((0, 0),), (0, 0))))
        self.assertIsNone(twice_age((((0, 0),), ("[", 0, "]", "+", "+", 0))))

    def test_a_path_that_comes_back(self):
        self.assertEqual(meeting_age(SQUARE), 0)
        self.assertIs(never_meets(SQUARE), False)
        self.assertIs(never_meets((((0, 0),), (0, "+", 0, "+", 0))), True)
        self.assertEqual(meeting_age((((0, 0),), ("+", "+", 0, "+", "+", 0))), 0)

    def test_places_come_to_at_the_end_of_strokes(self):
        self.assertEqual(meeting_age((((0, 0),), (0, "[", "+", 0, "]", "-", 0, "-", 0, "-", 0, "-", 0))), 0)
        # Both branches end at (1, 1).
        book = (((0, 0),), ("[", 0, "+", 0, "]", "+", 0, "-", 0))
        self.assertEqual(meeting_age(book), 0)
        self.assertIsNone(twice_age(book))

    def test_going_back_is_no_coming(self):
        for start in ((0, "[", "+", 0, "]", 0), ("[", 0, "]", "+", "[", 0, "]", "+", 0), ("[", 0, 0, "]", "-", 0)):
            self.assertIsNone(meeting_age((((0, 0),), start)))
        self.assertIs(never_meets(PLANT), False)
        self.assertIs(never_meets((((0, 0, "[", "+", 0, "]", 0),), (0,))), True)

    def test_books_that_meet_but_never_draw_twice(self):
        for book, age in ((DRAGON, 4), (FIVE, 2), (SQUARE, 0)):
            self.assertEqual((meeting_age(book), twice_age(book)), (age, None))


def plain_shows(book, value):
    """Point 9 by its words, for tuples of pairs of five integers."""
    words, start = book
    letters = [letter for letter, _ in first_ages(book)]
    far = book_farness(book)

    def near(pairs):
        return {pair for pair in pairs if pair[0] * pair[0] + pair[1] * pair[1] <= far * far}

    asked = near_pairs(plain_strokes(start), far)
    for letter in letters:
        asked |= near_pairs(plain_strokes(words[letter]), far)
    for x, y, letter, turn, other in value:
        place = times((x, y), plain_multiple(book))
        later = moved(plain_strokes(words[other]), place, turn)
        asked |= near({plain_pair(one, two) for one in plain_strokes(words[letter]) for two in later})
    bad = [pair for pair in value if is_twice([(0, 0, 0, 0), (*pair[:2], pair[3], 0)])]
    formed = all([pair[2] in letters and pair[4] in letters and 0 <= pair[3] <= 3 for pair in value])
    return formed and near(value) == set(value) and list(value) == sorted(set(value)) and not bad \
        and asked <= set(value)


class Shows(unittest.TestCase):

    def test_webs(self):
        for book in SAMPLES + tuple(even_books(40, 8)):
            with self.subTest(book=book):
                self.assertIs(shows_never_twice(book, pairs_of(book)), never_twice(book))

    def test_one_left_out(self):
        found = []
        for book in (FIVE, LINE, SQUARE, SHORT):
            pairs = pairs_of(book)
            for index in range(len(pairs)):
                value = pairs[:index] + pairs[index + 1:]
                with self.subTest(book=book, left_out=pairs[index]):
                    self.assertIs(shows_never_twice(book, value), plain_shows(book, value))
                found.append(plain_shows(book, value))
        self.assertIn(False, found)

    def test_one_left_out_of_a_great_web(self):
        pairs = pairs_of(DRAGON)
        for index in range(0, len(pairs), 37):
            self.assertIs(shows_never_twice(DRAGON, pairs[:index] + pairs[index + 1:]), False)

    def test_one_more(self):
        source = random.Random(2)
        found = []
        for book in (LINE, FIVE, SQUARE):
            pairs = pairs_of(book)
            far = book_farness(book)
            for _ in range(60):
                more = (source.randint(-far, far), source.randint(-far, far), 0, source.randrange(4), 0)
                if more not in pairs:
                    value = tuple(sorted(pairs + (more,)))
                    with self.subTest(book=book, more=more):
                        self.assertIs(shows_never_twice(book, value), plain_shows(book, value))
                    found.append(plain_shows(book, value))
        self.assertIn(True, found)
        self.assertIn(False, found)

    def test_any_pairs_against_the_words_of_the_point(self):
        source = random.Random(9)
        for book in (LINE, FIVE, SHORT, LEVY):
            pairs = pairs_of(book)
            for _ in range(40):
                value = [pair for pair in pairs if source.randrange(20)]
                if source.randrange(3) == 0:
                    source.shuffle(value)
                with self.subTest(book=book):
                    self.assertIs(shows_never_twice(book, tuple(value)), plain_shows(book, value))

    def test_what_start_and_words_have(self):
        # Without any near pair there is nothing to hold.
        self.assertIs(shows_never_twice(LINE, ()), False)
        pairs = pairs_of(SQUARE)
        start = [row[:5] for row in web(SQUARE) if row[5] == 0]
        for pair in start:
            self.assertIs(shows_never_twice(SQUARE, tuple([each for each in pairs if each != pair])), False)

    def test_order(self):
        pairs = pairs_of(FIVE)
        self.assertIs(shows_never_twice(FIVE, pairs), True)
        self.assertIs(shows_never_twice(FIVE, pairs[::-1]), False)
        self.assertIs(shows_never_twice(FIVE, pairs[1:] + pairs[:1]), False)
        for index in (0, 5, len(pairs) - 1):
            self.assertIs(shows_never_twice(FIVE, pairs[:index + 1] + pairs[index:]), False)

    def test_pairs_that_are_none(self):
        pairs = pairs_of(LINE)
        self.assertIs(shows_never_twice(LINE, pairs), True)
        self.assertIs(shows_never_twice(LINE, pairs + ((5, 0, 0, 1, 0),)), True)
        behind = ((6, 0, 0, 0, 0), (5, 1, 0, 0, 0), (10 ** 5000, 0, 0, 0, 0), (5, 0, 0, 4, 0), (5, 0, 0, 1, 1),
                  (5, 0, 1, 1, 0), (5, 0, 0, 1), (5, 0, 0, 1, 0, 0), (5, 0, 0, True, 0), (5, 0, 0, 1, False),
                  (5, 0, 0, "1", 0), (5, 0, 0, None, 0), [5, 0, 0, 1, 0], (5, 0, 0, (1,), 0), (5, 0, 0, 1, -1))
        for number, pair in enumerate(behind + OTHER_VALUES):
            with self.subTest(number=number):
                self.assertIs(shows_never_twice(LINE, pairs + (pair,)), False)
        self.assertIs(shows_never_twice(LINE, ((-5, 0, 0, 3, 0),) + pairs), True)
        for pair in ((-6, 0, 0, 0, 0), (-5, 0, 0, -1, 0), (-5, 0, -1, 3, 0), (-5, 0, 0, 3, -1),
                     (-10 ** 5000, 0, 0, 0, 0)):
            self.assertIs(shows_never_twice(LINE, (pair,) + pairs), False)

    def test_letters_that_do_not_come(self):
        book = (((0, 0), (1, 1)), (0,))
        pairs = pairs_of(book)
        self.assertIs(shows_never_twice(book, pairs), True)
        self.assertIs(shows_never_twice(book, pairs + ((5, 0, 0, 1, 0),)), True)
        self.assertIs(shows_never_twice(book, pairs + ((5, 0, 0, 1, 1),)), False)
        self.assertIs(shows_never_twice(book, pairs + ((5, 0, 1, 1, 1),)), False)

    def test_pairs_that_draw_the_same(self):
        pairs = pairs_of(LINE)
        for pair in ((0, 0, 0, 0, 0), (1, 0, 0, 2, 0)):
            self.assertIs(shows_never_twice(LINE, tuple(sorted(pairs + (pair,)))), False)
        self.assertIs(shows_never_twice(LEVY, pairs_of(LEVY)), False)

    def test_values_of_all_kinds(self):
        for book in (LINE, DRAGON, LEVY, PLANT):
            for value in OTHER_VALUES:
                self.assertIs(shows_never_twice(book, value), False)
            self.assertIs(shows_never_twice(book, list(pairs_of(book))), False)
            self.assertIs(shows_never_twice(book, web(book)), False)

    def test_20000_and_20001_pairs(self):
        # Straight words keep turns, and pairs of a turn that do not lie in one line never come together.
        words = tuple([((letter + 1) % 8,) * 2 for letter in range(8)])
        book = (words, (0,))
        near = [(x, y) for x in range(-5, 6) for y in range(-5, 6) if x * x + y * y <= 25]
        kept = [(x, y, turn) for x, y in near for turn in range(4)
                if turn % 2 or turn == 0 and (x, y) != (0, 0) or turn == 2 and (x, y) != (1, 0)]
        # Nothing becomes a pair of an odd y with turn 0, so that these may be left out.
        needed = [each for each in kept if each[2] or each[1] % 2 == 0]
        free = [each for each in kept if each not in needed]
        self.assertGreater(64 * len(kept), 20001)
        pairs = [(x, y, letter, turn, other) for x, y, turn in needed + free
                 for letter in range(8) for other in range(8)]
        for many, expected in ((19999, True), (20000, True), (20001, False)):
            self.assertIs(shows_never_twice(book, tuple(sorted(pairs[:many]))), expected)
        self.assertIs(shows_never_twice(book, ((5, 0, 0, 1, 0),) * 10 ** 6), False)

    def test_a_web_of_too_many_pairs_whatever_the_value(self):
        for value in OTHER_VALUES + (((1, 0, 0, 0, 0),), ((0, 0, 0, 0, 0),), [(1, 0, 0, 0, 0)],
                                     ((1, 0, 0, 0, 0),) * 20001):
            with self.assertRaises(TooMany) as caught:
                shows_never_twice(WIDE, value)
            self.assertEqual(caught.exception.most, 20000)


class Uneven(unittest.TestCase):

    def test_not_even(self):
        for book in UNEVEN:
            for call in TAKING_A_BOOK:
                with self.subTest(book=book, call=call.__name__), self.assertRaises(NotEven):
                    call(book)
            for value in (None, (), ((1, 0, 0, 0, 0),)):
                with self.assertRaises(NotEven):
                    shows_never_twice(book, value)

    def test_ahead_of_too_many_pairs(self):
        # The words of WIDE, and one more letter that goes another way.
        words, start = WIDE
        for letter, error in (((2,), NotEven), ((2, "-"), NotEven), ((), BadBook)):
            with self.assertRaises(error):
                shows_never_twice((words + (letter,), start + (2,)), ())

    def test_a_letter_that_never_comes_does_not_matter(self):
        self.assertIs(never_twice((((0, 0), (1, "+")), (0,))), True)


class TooManyPairs(unittest.TestCase):

    def test_more_than_20000(self):
        for call in TAKING_A_BOOK:
            begun = time.perf_counter()
            with self.assertRaises(TooMany) as caught:
                call(WIDE)
            self.assertEqual(caught.exception.most, 20000)
            self.assertLess(time.perf_counter() - begun, SOON)

    def test_also_where_two_strokes_draw_the_same_early(self):
        with self.assertRaises(TooMany):
            twice_age((WIDE[0], (0, "+", "+", 0)))

    def test_just_as_many_as_may_be(self):
        for book in (FIVE, DRAGON, THREE):
            many = len(web(book))
            with mock.patch("strokeonce.spinning.MOST_PAIRS", many):
                self.assertEqual(len(web(book)), many)
                self.assertIs(shows_never_twice(book, ()), False)
            with mock.patch("strokeonce.spinning.MOST_PAIRS", many - 1):
                for call in TAKING_A_BOOK + (lambda book: shows_never_twice(book, ()),):
                    with self.assertRaises(TooMany) as caught:
                        call(book)
                    self.assertEqual(caught.exception.most, many - 1)


class Times(unittest.TestCase):

    def test_answers_come_soon(self):
        for book in long_books() + [DRAGON, FIVE]:
            begun = time.perf_counter()
            pairs = pairs_of(book)
            self.assertIs(shows_never_twice(book, pairs), never_twice(book))
            self.assertEqual(meeting_age(book) is None, never_meets(book))
            self.assertLess(time.perf_counter() - begun, SOON)


if __name__ == "__main__":
    unittest.main()
