"""Point 2: places, and ages whose limit is told."""

import unittest

from strokeonce.checks import check_age, check_place
from strokeonce.errors import BadNumber, BadPlace

FARTHEST = 10 ** 400


class Places(unittest.TestCase):

    def test_places(self):
        for place in ((0, 0), (-1, 2), (FARTHEST, -FARTHEST), (-FARTHEST, FARTHEST)):
            self.assertIsNone(check_place(place))

    def test_coordinates_beyond_the_limit(self):
        for x in (FARTHEST + 1, -FARTHEST - 1, 10 ** 5000):
            for place in ((x, 0), (0, x)):
                with self.assertRaises(BadPlace):
                    check_place(place)

    def test_no_places(self):
        values = (0, "", "00", True, None, (), (0,), (0, 0, 0), [0, 0], {0: 0, 1: 0})
        for value in values:
            with self.subTest(value=value), self.assertRaises(BadPlace):
                check_place(value)

    def test_no_coordinates(self):
        for x in ("0", True, False, None, (0,), [0], {}):
            for place in ((x, 0), (0, x)):
                with self.subTest(place=place), self.assertRaises(BadPlace):
                    check_place(place)


class Ages(unittest.TestCase):

    def test_the_limit_is_1000(self):
        for age in (0, 1, 1000):
            self.assertIsNone(check_age(age))
        for age in (-1, 1001):
            with self.subTest(age=age), self.assertRaises(BadNumber):
                check_age(age)

    def test_another_limit(self):
        self.assertIsNone(check_age(400, 400))
        with self.assertRaises(BadNumber):
            check_age(401, 400)


if __name__ == "__main__":
    unittest.main()
