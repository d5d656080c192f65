"""Point 1: wrong values for each argument of each function, their order, and that none is modified."""

import copy
import unittest

from samples import FARTHEST, LEVY, LINE, OTHER_VALUES
from strokeonce import (ages, books, census, counts, crowds, desk, evens, finds, notation, pens, pictures, sides, sums,
                        variants, webs, windows)
from strokeonce.errors import (BadBook, BadLine, BadNumber, BadPlace, BadWord, Branching, NotEven, NotSteady, NotText,
                               StrokeError)


def ask(book, line):
    return desk.Desk(book).ask(line)


# The arguments of each function. Behind an age its limit stands.
CALLS = {
    books.first_ages: ("book",),
    pens.word_at: ("book", "age 1000"),
    pens.drawing: ("book", "age 1000"),
    pens.drawn_twice: ("book", "age 1000"),
    ages.strokes_in: ("book", "age 1000"),
    ages.end_at: ("book", "age 1000"),
    ages.turns_at: ("book", "age 1000"),
    ages.area_at: ("book", "age 1000"),
    ages.stroke: ("book", "age 1000", "number"),
    windows.box: ("book", "age 400"),
    windows.window: ("book", "age 400", "place", "place"),
    windows.strokes_at: ("book", "age 400", "place"),
    evens.is_steady: ("book",),
    evens.multiple: ("book",),
    webs.web: ("book",),
    webs.never_twice: ("book",),
    webs.never_meets: ("book",),
    webs.twice_age: ("book",),
    webs.meeting_age: ("book",),
    webs.shows_never_twice: ("book", "value"),
    finds.first_twice: ("book",),
    finds.first_meeting: ("book",),
    counts.twice_pairs: ("book", "age 300"),
    counts.meeting_pairs: ("book", "age 300"),
    sides.share_age: ("book", "word", "place", "heading"),
    sides.touch_age: ("book", "word", "place", "heading"),
    sides.never_share: ("book", "word", "place", "heading"),
    sums.strokes_modulo: ("book", "age 10 ** 40", "modulus"),
    sums.end_modulo: ("book", "age 10 ** 40", "modulus"),
    sums.first_unlike_count: ("book", "book"),
    sums.first_unlike_end: ("book", "book"),
    variants.mirrored: ("book",),
    variants.backward: ("book",),
    variants.sped: ("book", "speed"),
    notation.write_book: ("book",),
    notation.read_book: ("text",),
    census.census: ("strokes",),
    desk.Desk: ("book",),
    ask: ("book", "line"),
    desk.run: ("text", "lines"),
    pictures.picture: ("book", "age 400", "near place", "near place"),
    pictures.touching: ("book", "age 400", "number"),
    pictures.first_coming: ("book", "place", "most"),
    crowds.kinds_that_come: ("book",),
    crowds.most_drawn: ("book",),
    crowds.most_ending: ("book",),
    crowds.different_strokes: ("book", "age 300"),
    crowds.different_places: ("book", "age 300"),
}

# Those that are for even books alone.
EVEN_MODULES = tuple([f"strokeonce.{name}" for name in ("webs", "finds", "counts", "sides", "crowds")])
FOR_EVEN_BOOKS = tuple([call for call in CALLS if call.__module__ in EVEN_MODULES])
FOR_STEADY_BOOKS = (sums.end_modulo, sums.first_unlike_end)
UNEVEN = (((0, "+", 0),), (0,))

NO_NUMBERS = (-1, -10 ** 5000, 10 ** 5000, True, False, None, "", "0", "1", (), (0,), [], [0], {}, {0: 0}, ((0,), (0,)))

NO_PLACES = OTHER_VALUES + (
    (0, 0, 0), ((0, 0),), [0, 0], "00", (0, None), (None, 0), (True, 0), (0, False), ("0", 0), (0, "0"),
    (0, (0,)), ([0], 0), (0, {}), (FARTHEST + 1, 0), (0, FARTHEST + 1), (-FARTHEST - 1, 0), (0, -FARTHEST - 1),
    LEVY)

# The letter 9 is none of a book of fewer.
NO_WORDS = tuple([value for value in OTHER_VALUES if value != (0,)]) + (
    (9,), (-1,), (True,), (0, False), (0, None), (0, "a"), (0, "["), ("]", 0, "["), (0, "]"), ("+",), ("[", "]"),
    (0,) * 41, [0], (0, (0,)), (0, [0]), (0, {}), (10 ** 5000,), "0")

NO_TEXTS = tuple([value for value in OTHER_VALUES if not isinstance(value, str)]) + (LEVY, ("start a", "a aa"), ["a"])

NO_LINES = tuple([value for value in OTHER_VALUES if value != ()]) + (["book"], ("book", None), ("book",) * 1001)

# For each kind of argument right values, wrong ones, and the error for these.
KINDS = {
    "book": ((LINE, (((0, 0), (1,)), (0, "+", 0))), OTHER_VALUES + ((((0,),), ()), (((0, "["),), (0,))), BadBook),
    "age 1000": ((0, 2), NO_NUMBERS + (1001,), BadNumber),
    "age 400": ((0, 2), NO_NUMBERS + (401, 1000), BadNumber),
    "age 300": ((0, 2, 300), NO_NUMBERS + (301, 400), BadNumber),
    "age 10 ** 40": ((0, 2, 10 ** 40), NO_NUMBERS + (10 ** 40 + 1,), BadNumber),
    "modulus": ((2, 10 ** 18), NO_NUMBERS + (0, 1, 10 ** 18 + 1), BadNumber),
    "speed": ((1, 2, 3, 4), NO_NUMBERS + (0, 5), BadNumber),
    "number": ((0,), NO_NUMBERS, BadNumber),
    "most": ((0, 2, 400), NO_NUMBERS + (401, 1000), BadNumber),
    "strokes": ((2, 3), NO_NUMBERS + (0, 1, 6), BadNumber),
    "line": (("book", "strokes 3"), NO_TEXTS, NotText),
    "lines": (((), ("book",), ("nothing", "end 1")), NO_LINES, NotText),
    "heading": ((0, 1, 2, 3), NO_NUMBERS + (4, 5), BadNumber),
    "word": (((0,), ("[", "-", 0, "]", 0)), NO_WORDS, BadWord),
    "value": (OTHER_VALUES, (), None),
    "text": (("start a\na aa",), NO_TEXTS, NotText),
    "near place": (((0, 0), (7, -9), (-59, 59)), NO_PLACES, BadPlace),
    "place": (((0, 0), (FARTHEST, -FARTHEST)), NO_PLACES, BadPlace),
}


def right_values(call):
    return [KINDS[kind][0][0] for kind in CALLS[call]]


class WrongValues(unittest.TestCase):

    def expect(self, call, arguments, error):
        with self.assertRaises(StrokeError) as caught:
            call(*arguments)
        self.assertIs(error, type(caught.exception), call.__name__)

    def test_right_values_are_answered(self):
        for call, kinds in CALLS.items():
            for index, kind in enumerate(kinds):
                for value in KINDS[kind][0]:
                    arguments = right_values(call)
                    arguments[index] = value
                    call(*arguments)

    def test_each_argument_alone(self):
        for call, kinds in CALLS.items():
            for index, kind in enumerate(kinds):
                _, values, error = KINDS[kind]
                for value in values:
                    arguments = right_values(call)
                    arguments[index] = value
                    self.expect(call, arguments, error)

    def test_the_leftmost_of_several(self):
        for call, kinds in CALLS.items():
            for index, kind in enumerate(kinds):
                for shift in range(12):
                    arguments = right_values(call)
                    for later in range(index, len(kinds)):
                        values = KINDS[kinds[later]][1] or OTHER_VALUES
                        arguments[later] = values[(5 * later + shift) % len(values)]
                    if KINDS[kind][1]:
                        self.expect(call, arguments, KINDS[kind][2])

    def expect_behind_all_arguments(self, call, book, error):
        kinds = CALLS[call]
        self.expect(call, [book] + right_values(call)[1:], error)
        for index in range(1, len(kinds)):
            _, values, other = KINDS[kinds[index]]
            for value in values:
                arguments = [book] + right_values(call)[1:]
                arguments[index] = value
                self.expect(call, arguments, other)

    def test_not_even_comes_behind_all_arguments(self):
        for call in FOR_EVEN_BOOKS:
            self.expect_behind_all_arguments(call, UNEVEN, NotEven)

    def test_not_steady_comes_behind_all_arguments(self):
        for call in FOR_STEADY_BOOKS:
            self.expect_behind_all_arguments(call, UNEVEN, NotSteady)

    def test_values_of_all_kinds_for_all_arguments(self):
        for call, kinds in CALLS.items():
            error = KINDS[kinds[0]][2]
            for first in OTHER_VALUES:
                for second in OTHER_VALUES:
                    wrong = BadLine if error is NotText and isinstance(first, str) else error
                    self.expect(call, [first] + [second] * (len(kinds) - 1), wrong)

    def test_branching_comes_behind_the_book(self):
        self.expect(variants.backward, [(((0, "[", "]"),), (0,))], Branching)
        self.expect(variants.backward, [(((0, "[", "]"), ()), (0,))], BadBook)


class NotModified(unittest.TestCase):

    def test_arguments_stay_as_they_are(self):
        values = (LEVY, 2, (0, 0), (0,), [0], [[0], {}], {0: [1]}, ([0], [1]), ((0, [1]),), ([[0]], [0]))
        for call, kinds in CALLS.items():
            for first in values:
                for second in values:
                    arguments = [first] + [second] * (len(kinds) - 1)
                    kept = copy.deepcopy(arguments)
                    try:
                        call(*arguments)
                    except StrokeError:
                        pass
                    self.assertEqual(arguments, kept)

    def test_asked_again_they_answer_the_same(self):
        for call in CALLS:
            if call is desk.Desk:
                continue
            arguments = right_values(call)
            self.assertEqual(call(*arguments), call(*arguments))


if __name__ == "__main__":
    unittest.main()
