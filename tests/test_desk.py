"""Point 16: a desk that answers lines about a book."""

import time
import unittest

from samples import (DRAGON, FIVE, LEVY, LINE, OTHER_VALUES, PLANT, SQUARE, STRAIGHT, UNEVEN, WIDE, broad_book,
                     random_books)
from strokeonce.ages import area_at, end_at, stroke, strokes_in, turns_at
from strokeonce.desk import Desk, run
from strokeonce.errors import (BadBook, BadLine, BadNumber, NotEven, NotText, StrokeError, TooMany, Unasked)
from strokeonce.evens import multiple
from strokeonce.finds import first_meeting, first_twice
from strokeonce.notation import write_book
from strokeonce.windows import box, window

SOON = 20
BOOKS = random_books(40) + [LEVY, DRAGON, PLANT, LINE, FIVE, SQUARE]
EVEN = [LEVY, DRAGON, PLANT, LINE, FIVE, SQUARE]
TEXT = "start a\na a+a-"

# No lines that a desk answers.
UNASKED = (
    "", " ", "\n", "strokes", "strokes ", "strokes  3", " strokes 3", "strokes 3 ", "strokes 3 4", "Strokes 3",
    "STROKES 3", "stroke", "stroke 3", "stroke 3 1 1", "stroke  3 1", "turns", "turns 1 2", "area", "area a", "end",
    "end 1 1", "box", "box 1 0 0 1 1", "window", "window 1", "window 1 0 0 1", "window 1 0 0 1 1 1", "window 1 0 0  1 1",
    "multiple 1", "multiple ", " multiple", "twice 0", "twice ", "meets 1", "meets\n", "book 1", "book ", "book\n",
    "books", "web", "never_twice", "drawing 1", "first_ages", "3", "3 strokes", "none", "refused", "strokes\t3",
    "strokes 3\n", "\tstrokes 3", "strokes\u00a03", "strokes,3", "multiple\x00", "multiple\ntwice", "ask", "run",
)

# No numbers in plain figures.
NO_FIGURES = (
    "", "-", "+", "+1", "+0", "-0", "00", "01", "-01", "-00", "007", "1.0", "1e3", "1_000", "1,000", "0x1", "0b1", "--1",
    "1-", "- 1", "a", "One", "None", "True", "1\n", "\t1", "\u0661", "\u0967", "\uff11", "\u00b2", "\u2460", "\u22121",
    "1\u00a0", "9" * 401, "-" + "9" * 401, "1" + "0" * 5000, "(1)", "1;", "1a", "\u0660",
)


def parted(numbers):
    return " ".join([str(number) for number in numbers])


class Asked(unittest.TestCase):

    def test_numbers_of_ages(self):
        for book in BOOKS:
            desk = Desk(book)
            for age in (0, 1, 5, 33, 400, 1000):
                with self.subTest(book=book, age=age):
                    self.assertEqual(desk.ask(f"strokes {age}"), str(strokes_in(book, age)))
                    self.assertEqual(desk.ask(f"turns {age}"), str(turns_at(book, age)))
                    self.assertEqual(desk.ask(f"area {age}"), str(area_at(book, age)))
                    self.assertEqual(desk.ask(f"end {age}"), parted(end_at(book, age)))

    def test_boxes(self):
        for book in BOOKS:
            for age in (0, 1, 7, 400):
                self.assertEqual(Desk(book).ask(f"box {age}"), parted(box(book, age)))

    def test_strokes(self):
        for book in BOOKS:
            for age in (0, 3, 200):
                many = strokes_in(book, age)
                for number in {0, many // 2, many - 1}:
                    if len(str(number)) <= 400:
                        self.assertEqual(Desk(book).ask(f"stroke {age} {number}"), parted(stroke(book, age, number)))

    def test_windows(self):
        found = []
        for book in BOOKS:
            for age, window_line in ((0, "0 0 0 0"), (2, "-1 -1 2 2"), (5, "-30 -30 30 0"), (3, "1 1 0 0"), (2, "7 7 9 9")):
                left, low, right, high = [int(word) for word in window_line.split(" ")]
                rows = window(book, age, (left, low), (right, high))
                expected = ", ".join([parted(row) for row in rows]) or "none"
                with self.subTest(book=book, age=age, window=window_line):
                    self.assertEqual(Desk(book).ask(f"window {age} {window_line}"), expected)
                found.append(expected)
        self.assertIn("none", found)
        self.assertEqual(Desk(LEVY).ask("window 1 0 0 9 9"), "0 0 0 0 0, 1 1 0 1 0")
        self.assertEqual(Desk(PLANT).ask("window 0 0 0 0 0"), "0 0 0 0 0")
        self.assertEqual(Desk(PLANT).ask("window 0 5 5 6 6"), "none")

    def test_multiples(self):
        for book in BOOKS + list(UNEVEN):
            place = multiple(book)
            self.assertEqual(Desk(book).ask("multiple"), "none" if place is None else parted(place))
        self.assertEqual(Desk(LEVY).ask("multiple"), "1 1")
        self.assertEqual(Desk((((0, "-", 0, "+"),), (0,))).ask("multiple"), "1 -1")
        self.assertEqual(Desk((((0, "+", 0),), (0,))).ask("multiple"), "none")
        self.assertEqual(Desk(((("[", 0, "]"),), (0,))).ask("multiple"), "0 0")

    def test_twice_and_meets(self):
        for book in EVEN:
            for line, found in (("twice", first_twice(book)), ("meets", first_meeting(book))):
                self.assertEqual(Desk(book).ask(line), "none" if found is None else parted(found))
        self.assertEqual([Desk(LINE).ask("twice"), Desk(LINE).ask("meets")], ["none", "none"])
        self.assertEqual([Desk(SQUARE).ask("twice"), Desk(SQUARE).ask("meets")], ["none", "0 0 3"])
        self.assertEqual(Desk(LEVY).ask("twice"), "4 7 8")

    def test_books(self):
        for book in BOOKS + [broad_book(), STRAIGHT]:
            self.assertEqual(Desk(book).ask("book"), " / ".join(write_book(book).split("\n")))
        self.assertEqual(Desk(DRAGON).ask("book"), "start a / a a+b- / b +a-b")

    def test_answers_are_strings(self):
        for line in ("strokes 3", "turns 3", "area 3", "end 3", "box 3", "stroke 3 1", "window 3 0 0 1 1", "multiple",
                     "twice", "meets", "book"):
            self.assertIs(str, type(Desk(DRAGON).ask(line)))

    def test_asked_again(self):
        desk = Desk(DRAGON)
        for _ in range(3):
            self.assertEqual([desk.ask("strokes 3"), desk.ask("multiple")], ["8", "1 1"])
            with self.assertRaises(Unasked):
                desk.ask("strokes")

    def test_desks_of_two_books(self):
        one, other = Desk(LINE), Desk(PLANT)
        self.assertEqual([one.ask("strokes 2"), other.ask("strokes 2"), one.ask("strokes 2")], ["4", "9", "4"])

    def test_very_great_answers(self):
        for book in (STRAIGHT, broad_book()):
            desk = Desk(book)
            for line, value in (("strokes 1000", strokes_in(book, 1000)), ("area 1000", area_at(book, 1000))):
                self.assertEqual(desk.ask(line), str(value))


class NotAsked(unittest.TestCase):

    def test_other_lines(self):
        for line in UNASKED:
            with self.subTest(line=line), self.assertRaises(Unasked):
                Desk(LEVY).ask(line)

    def test_numbers_in_other_figures(self):
        desk = Desk(LEVY)
        for word in NO_FIGURES:
            for line in (f"strokes {word}", f"box {word}", f"stroke 3 {word}", f"stroke {word} 0", f"window {word} 0 0 1 1",
                         f"window 1 {word} 0 1 1", f"window 1 0 {word} 1 1", f"window 1 0 0 {word} 1",
                         f"window 1 0 0 1 {word}"):
                with self.subTest(line=line[:99]), self.assertRaises(Unasked):
                    desk.ask(line)

    def test_400_figures(self):
        desk = Desk(LINE)
        great = "9" * 400
        self.assertEqual(desk.ask(f"window 1 -{great} -{great} {great} {great}"), "0 0 0 0 0, 1 1 0 0 0")
        self.assertEqual(desk.ask(f"window 1 0 1{'0' * 399} 0 {great}"), "none")
        for line in (f"strokes {great}", f"strokes -{great}", f"stroke 3 {great}", f"window {great} 0 0 1 1"):
            with self.assertRaises(BadNumber):
                desk.ask(line)
        for line in (f"strokes {great}9", f"strokes -{great}9", f"window 1 0 0 {great}0 1"):
            with self.assertRaises(Unasked):
                desk.ask(line)

    def test_numbers_below_0(self):
        desk = Desk(LINE)
        self.assertEqual(desk.ask("window 1 -1 -5 0 0"), "0 0 0 0 0")
        for line in ("strokes -1", "turns -1", "area -1", "end -1", "box -1", "stroke -1 0", "stroke 1 -1",
                     "window -1 0 0 1 1"):
            with self.assertRaises(BadNumber):
                desk.ask(line)

    def test_values_that_are_no_strings(self):
        for value in OTHER_VALUES + (("strokes 3",), ["multiple"], b"multiple", 3):
            if not isinstance(value, str):
                with self.assertRaises(NotText):
                    Desk(LEVY).ask(value)

    def test_errors_of_the_functions(self):
        for book, line, error in (
                (LINE, "strokes 1001", BadNumber), (LINE, "end 1001", BadNumber), (LINE, "box 401", BadNumber),
                (LINE, "stroke 2 4", BadNumber), (LINE, "stroke 1001 0", BadNumber), (LINE, "window 401 0 0 1 1", BadNumber),
                (LINE, "window 400 0 0 2000 0", TooMany), (UNEVEN[0], "twice", NotEven), (UNEVEN[0], "meets", NotEven),
                (WIDE, "twice", TooMany), (WIDE, "meets", TooMany)):
            with self.subTest(line=line), self.assertRaises(error):
                Desk(book).ask(line)
        self.assertEqual(Desk(LINE).ask("box 400"), f"0 0 {2 ** 400} 0")
        self.assertEqual(Desk(LINE).ask("strokes 1000"), str(2 ** 1000))

    def test_no_books(self):
        for value in OTHER_VALUES + ((((0,),), ()), (((0, "["),), (0,)), TEXT):
            with self.assertRaises(BadBook):
                Desk(value)
        with self.assertRaises(BadBook) as caught:
            Desk((((0,), (0, 2)), (0,)))
        self.assertEqual(caught.exception.letter, 1)


class Runs(unittest.TestCase):

    def test_answers_in_order(self):
        lines = ("strokes 10", "end 2", "multiple", "window 1 5 5 6 6", "end")
        self.assertEqual(run(TEXT, lines), ("1024", "0 2 0", "1 1", "none", "refused"))
        self.assertEqual(run(TEXT, lines[::-1]), ("refused", "none", "1 1", "0 2 0", "1024"))

    def test_the_answers_of_a_desk(self):
        lines = ("strokes 3", "turns 3", "area 3", "end 3", "box 3", "stroke 3 1", "window 3 0 0 1 1", "multiple", "book",
                 "strokes 3", "twice", "strokes  3", "meets", "stroke 3 10000", "turns 3")
        for book in BOOKS:
            desk = Desk(book)
            expected = []
            for line in lines:
                try:
                    expected.append(desk.ask(line))
                except StrokeError:
                    expected.append("refused")
            self.assertEqual(run(write_book(book), lines), tuple(expected))

    def test_refused(self):
        text = write_book(UNEVEN[0])
        lines = ("strokes 1001", "stroke 3 9999", "", "strokes 03", "twice", "meets", "strokes 1", "window 401 0 0 1 1")
        self.assertEqual(run(text, lines), ("refused",) * 6 + ("2", "refused"))
        self.assertEqual(run("start a\na aa", ("window 400 0 0 2000 0", "window 400 0 0 1 0", "stroke 0 1")),
                         ("refused", "0 0 0 0 0, 1 1 0 0 0", "refused"))
        self.assertEqual(run(write_book(WIDE), ("twice", "multiple", "meets")), ("refused", "1 1", "refused"))

    def test_no_lines(self):
        self.assertEqual(run(TEXT, ()), ())

    def test_spaces_in_the_text(self):
        self.assertEqual(run("\n  start   a\n\n a  aa \n", ("strokes 3", "book")), ("8", "start a / a aa"))

    def test_1000_and_1001_lines(self):
        self.assertEqual(run(TEXT, ("strokes 3",) * 1000), ("8",) * 1000)
        self.assertEqual(run(TEXT, tuple([f"strokes {age}" for age in range(1000)])),
                         tuple([str(2 ** age) for age in range(1000)]))
        for lines in (("strokes 3",) * 1001, ("",) * 5000):
            with self.assertRaises(NotText):
                run(TEXT, lines)

    def test_values_that_are_no_tuples_of_strings(self):
        for value in OTHER_VALUES + (["strokes 3"], "strokes 3", {"strokes 3": 1}, (3,), ("strokes 3", None),
                                     ("strokes 3", ("strokes 3",)), (True,), ([],), ({},), (b"strokes 3",)):
            if value != ():
                with self.assertRaises(NotText):
                    run(TEXT, value)

    def test_bad_texts(self):
        for value in OTHER_VALUES + (LEVY, [TEXT]):
            if not isinstance(value, str):
                for lines in ((), None, ("strokes 3",) * 1001):
                    with self.assertRaises(NotText):
                        run(value, lines)
        for text, line, word in (("", 2, 1), ("start a", 2, 1), ("start a\na ab", 2, 2), ("start a\nb a", 2, 1),
                                 ("\nstart a a", 2, 3)):
            for lines in ((), ("strokes 3",), None, (None,), ("strokes 3",) * 1001):
                with self.assertRaises(BadLine) as caught:
                    run(text, lines)
                self.assertEqual((caught.exception.line, caught.exception.word), (line, word))

    def test_kinds(self):
        answers = run(TEXT, ("strokes 3", "nothing"))
        self.assertEqual([tuple, str, str], [type(each) for each in (answers, *answers)])


class Times(unittest.TestCase):

    def test_many_lines_answer_soon(self):
        begun = time.perf_counter()
        lines = ("twice", "meets", "window 400 -9 -9 9 9", "box 400", "area 1000") * 200
        run(write_book(DRAGON), lines)
        self.assertLess(time.perf_counter() - begun, SOON)


if __name__ == "__main__":
    unittest.main()
