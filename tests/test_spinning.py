"""The ways in which a web is spun: all at once, in parts, pair by pair, or not at all."""

import unittest
from unittest import mock

from samples import (DRAGON, FAR_ASIDE, FAR_BACK, FIVE, LEVY, LINE, MANY_LETTERS, PLANT, SAMPLES, THREE, WIDE,
                     even_books)
from strokeonce.counts import meeting_pairs, twice_pairs
from strokeonce.errors import TooMany
from strokeonce.finds import first_meeting, first_twice
from strokeonce.pairs import comes_again, draws_same
from strokeonce.sides import share_age, touch_age
from strokeonce.spinning import first_ages, seeds_of
from strokeonce.webs import (meeting_age, never_meets, never_twice, shows_never_twice, twice_age, web)

BOOKS = SAMPLES + (FAR_BACK, FAR_ASIDE) + tuple(even_books(30, 51))
KINDS = (draws_same, comes_again)


def ages_of(book):
    return first_ages(seeds_of(book), KINDS)


class Ways(unittest.TestCase):

    def test_pair_by_pair_and_on_grids(self):
        for book in BOOKS:
            with mock.patch("strokeonce.spinning.FEW", 0):
                on_grids = ages_of(book)
            with mock.patch("strokeonce.spinning.FEW", 10 ** 9):
                pair_by_pair = ages_of(book)
            with self.subTest(book=book):
                self.assertEqual(on_grids, pair_by_pair)
                self.assertEqual(on_grids, [twice_age(book), meeting_age(book)])

    def test_against_the_web_of_point_7(self):
        for book in BOOKS:
            rows = web(book)
            for wanted, age in zip(KINDS, ages_of(book)):
                with self.subTest(book=book, wanted=wanted.__name__):
                    self.assertEqual(min([row[5] for row in rows if wanted(row)], default=None), age)

    def test_both_ages_where_one_comes_late_or_never(self):
        self.assertEqual(ages_of(DRAGON), [None, 4])
        self.assertEqual(ages_of(FIVE), [None, 2])
        self.assertEqual(ages_of(LINE), [None, None])
        self.assertEqual(ages_of(LEVY), [4, 4])

    def test_in_parts(self):
        for book in (DRAGON, LEVY, THREE, PLANT, FAR_BACK, FAR_ASIDE):
            rows = web(book)
            for most in (1, 7, 100):
                with mock.patch("strokeonce.spinning.MOST_AT_ONCE", most):
                    self.assertEqual(web(book), rows)
                    with mock.patch("strokeonce.spinning.MOST_PAIRS", len(rows)):
                        self.assertEqual(web(book), rows)
                    with mock.patch("strokeonce.spinning.MOST_PAIRS", len(rows) - 1), self.assertRaises(TooMany):
                        web(book)


class Limits(unittest.TestCase):

    def test_no_web_where_few_pairs_may_be_near(self):
        # 4 turns for each 2 of 2 letters, at the 317 places that are no farther than 10 away.
        calls = (never_twice, twice_age, never_meets, meeting_age, first_twice, first_meeting,
                 lambda book: twice_pairs(book, 3), lambda book: meeting_pairs(book, 3),
                 lambda book: share_age(book, (0,), (0, 0), 1), lambda book: touch_age(book, (0,), (0, 0), 2),
                 lambda book: shows_never_twice(book, None), lambda book: shows_never_twice(book, ((1, 0, 0, 0, 0),)))
        for call in calls:
            with mock.patch("strokeonce.spinning.spin_all") as spun:
                call(DRAGON)
                spun.assert_not_called()
                with mock.patch("strokeonce.spinning.MOST_PAIRS", 4 * 4 * 317):
                    call(DRAGON)
                spun.assert_not_called()
                with mock.patch("strokeonce.spinning.MOST_PAIRS", 4 * 4 * 317 - 1):
                    call(DRAGON)
                spun.assert_called_once()

    def test_many_may_be_near_but_few_are(self):
        # 81 places no farther than 5 away, for 8 letters.
        self.assertGreater(4 * 64 * 81, 20000)
        rows = web(MANY_LETTERS)
        self.assertLess(len(rows), 20000)
        self.assertIs(never_twice(MANY_LETTERS), True)
        self.assertIs(never_meets(MANY_LETTERS), True)
        self.assertIs(shows_never_twice(MANY_LETTERS, None), False)
        self.assertIs(shows_never_twice(MANY_LETTERS, tuple([row[:5] for row in rows])), True)

    def test_too_many_come(self):
        for call in (ages_of, twice_age, first_meeting, lambda book: twice_pairs(book, 0),
                     lambda book: touch_age(book, (0,), (1, 1), 2)):
            with self.assertRaises(TooMany) as caught:
                call(WIDE)
            self.assertEqual(caught.exception.most, 20000)


if __name__ == "__main__":
    unittest.main()
