import unittest

from strokeonce import errors

PLAIN = ("BadNumber", "BadPlace", "BadWord", "NotEven", "NotSteady", "NotText", "Unasked", "Branching")
TELLING = ("BadBook", "BadLine", "TooMany")


class Family(unittest.TestCase):

    def test_head_is_a_value_error(self):
        self.assertEqual(errors.StrokeError.__bases__, (ValueError,))

    def test_all_derive_from_the_head_and_not_from_one_another(self):
        for name in PLAIN + TELLING:
            with self.subTest(name=name):
                kind = getattr(errors, name)
                self.assertEqual(kind.__bases__, (errors.StrokeError,))
                self.assertEqual((kind.__module__, kind.__name__), ("strokeonce.errors", name))

    def test_plain_ones_can_be_raised_and_caught(self):
        for name in PLAIN:
            with self.subTest(name=name), self.assertRaises(errors.StrokeError):
                raise getattr(errors, name)("wrong")


class Attributes(unittest.TestCase):

    def test_bad_book_has_its_letter(self):
        self.assertEqual(errors.BadBook(3).letter, 3)
        self.assertIsNone(errors.BadBook(None).letter)
        self.assertEqual(errors.BadBook(letter=0).letter, 0)

    def test_bad_line_has_its_line_and_word(self):
        error = errors.BadLine(2, 3)
        self.assertEqual((error.line, error.word), (2, 3))
        error = errors.BadLine(word=1, line=4)
        self.assertEqual((error.line, error.word), (4, 1))

    def test_too_many_has_its_most(self):
        self.assertEqual(errors.TooMany(60000).most, 60000)
        self.assertEqual(errors.TooMany(most=40).most, 40)


if __name__ == "__main__":
    unittest.main()
