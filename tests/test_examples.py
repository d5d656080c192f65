"""The examples of the document's interface, word for word, and where the names stand."""

import doctest
import importlib
import unittest

from strokeonce.errors import BadLine
from strokeonce.notation import read_book

BOOKS = '''
>>> from strokeonce.books import first_ages
>>> first_ages((((0, "+", 1), (1,), (2,)), (0,)))
((0, 0), (1, 1))
'''

PENS = '''
>>> from strokeonce.pens import drawing, drawn_twice, word_at
>>> book = (((0, "+", 0, "-"),), (0,))
>>> [word_at(book, 2), drawing(book, 1), drawn_twice((((0,),), (0, "+", "+", 0)), 0)]
[(0, '+', 0, '-', '+', 0, '+', 0, '-', '-'), ((0, 0, 0, 0), (1, 0, 1, 0)), (0, 1)]
'''

AGES = '''
>>> from strokeonce.ages import area_at, end_at, stroke, strokes_in, turns_at
>>> book = (((0, "+", 0, "-"),), (0,))
>>> [strokes_in(book, 100), end_at(book, 6), turns_at(book, 50), area_at(book, 2), stroke(book, 200, 2 ** 199)[2:]]
[1267650600228229401496703205376, (0, -8, 0), 0, 4, (1, 0)]
'''

WINDOWS = '''
>>> from strokeonce.windows import box, strokes_at, window
>>> book, dragon = (((0, "+", 0, "-"),), (0,)), (((0, "+", 1, "-"), ("+", 0, "-", 1)), (0,))
>>> [box(book, 2), window(book, 2, (0, 0), (0, 1)), strokes_at(dragon, 60, (0, 0))[0]]
[(0, 0, 1, 2), ((0, 0, 0, 0, 0),), 0]
'''

EVENS = '''
>>> from strokeonce.evens import is_steady, multiple
>>> [multiple((((0, "+", 0, "-"),), (0,))), is_steady((((0, "+", 0),), (0,))), multiple((((0, 0), (1,)), (0, 1)))]
[(1, 1), False, None]
'''

WEBS = '''
>>> from strokeonce.webs import never_twice, shows_never_twice, web
>>> dragon = (((0, "+", 1, "-"), ("+", 0, "-", 1)), (0,))
>>> pairs = tuple([row[:5] for row in web(dragon)])
>>> [never_twice(dragon), shows_never_twice(dragon, pairs), never_twice((((0, "+", 0, "-"),), (0,)))]
[True, True, False]
'''

FINDS = '''
>>> from strokeonce.finds import first_meeting, first_twice
>>> square = (((0, 0),), (0, "+", 0, "+", 0, "+", 0))
>>> [first_twice(square), first_meeting(square)]
[None, (0, 0, 3)]
'''

COUNTS = '''
>>> from strokeonce.counts import meeting_pairs, twice_pairs
>>> book = (((0, 0),), (0, "+", "+", 0))
>>> [twice_pairs(book, 0), twice_pairs(book, 3), meeting_pairs(book, 2)]
[1, 8, 3]
'''

SIDES = '''
>>> from strokeonce.sides import never_share, share_age, touch_age
>>> line = (((0, 0),), (0,))
>>> [share_age(line, (0,), (0, 0), 0), touch_age(line, (0,), (1, 0), 1), touch_age(line, (0,), (0, 1), 0), never_share(line, (0,), (0, 0), 2)]
[0, 0, None, True]
'''

SUMS = '''
>>> from strokeonce.sums import end_modulo, first_unlike_count, first_unlike_end, strokes_modulo
>>> book = (((0, "+", 0, "-"),), (0,))
>>> [strokes_modulo(book, 10 ** 30, 1000), end_modulo(book, 10 ** 30, 7), first_unlike_count(book, (((0, 0),), (0,))), first_unlike_end(book, (((0, 0),), (0,)))]
[376, (4, 0), None, 1]
'''

VARIANTS = '''
>>> from strokeonce.variants import backward, mirrored, sped
>>> book = (((0, "+", 0, "-"),), (0,))
>>> [mirrored(book), backward(book), sped(book, 2)]
[(((0, '-', 0, '+'),), (0,)), ((('+', 0, '-', 0),), (0,)), (((0, '+', 0, '-', '+', 0, '+', 0, '-', '-'),), (0,))]
'''

NOTATION = '''
>>> from strokeonce.notation import read_book, write_book
>>> [read_book("start a\\na a+b-\\nb +a-b"), write_book((((0, 0),), (0, "+", 0)))]
[(((0, '+', 1, '-'), ('+', 0, '-', 1)), (0,)), 'start a+a\\na aa']
'''

CENSUS = '''
>>> from strokeonce.census import census
>>> [row[:2] for row in census(2)]
[('aa', (2, 0)), ('a+a-', (1, 1)), ('a-a+', (1, -1)), ('+aa-', (0, 2)), ('+a-a', (1, 1)), ('-aa+', (0, -2)), ('-a+a', (1, -1))]
'''

DESK = '''
>>> from strokeonce.desk import run
>>> run("start a\\na a+a-", ("strokes 10", "end 2", "multiple", "window 1 5 5 6 6", "end"))
('1024', '0 2 0', '1 1', 'none', 'refused')
'''

PICTURES = '''
>>> from strokeonce.pictures import first_coming, picture, touching
>>> plant = (((0, "[", "+", 0, "]", 0),), (0,))
>>> [picture(plant, 1, (0, 0), (2, 1)), touching(plant, 1, 0), first_coming(plant, (4, 0), 9)]
['. o .\\n  |  \\no-o-o', (1, 2), 2]
'''

CROWDS = '''
>>> from strokeonce.crowds import different_places, different_strokes, most_drawn, most_ending
>>> line = (((0, 0),), (0, "+", "+", 0))
>>> [different_strokes(line, 5), different_places(line, 5), most_drawn(line), most_ending((((0, 0),), (0, "+", 0, "+", 0, "+", 0)))]
[32, 33, (2, 0), (1, 0)]
'''

INTERFACE = {
    "strokeonce.books": ("first_ages",),
    "strokeonce.pens": ("word_at", "drawing", "drawn_twice"),
    "strokeonce.ages": ("strokes_in", "turns_at", "area_at", "end_at", "stroke"),
    "strokeonce.windows": ("box", "window", "strokes_at"),
    "strokeonce.evens": ("is_steady", "multiple"),
    "strokeonce.webs": ("web", "never_twice", "never_meets", "twice_age", "meeting_age", "shows_never_twice"),
    "strokeonce.finds": ("first_twice", "first_meeting"),
    "strokeonce.counts": ("twice_pairs", "meeting_pairs"),
    "strokeonce.sides": ("share_age", "touch_age", "never_share"),
    "strokeonce.sums": ("strokes_modulo", "end_modulo", "first_unlike_count", "first_unlike_end"),
    "strokeonce.variants": ("mirrored", "backward", "sped"),
    "strokeonce.census": ("census",),
    "strokeonce.notation": ("write_book", "read_book"),
    "strokeonce.desk": ("Desk", "run"),
    "strokeonce.pictures": ("picture", "touching", "first_coming"),
    "strokeonce.crowds": ("kinds_that_come", "different_strokes", "different_places", "most_drawn", "most_ending"),
}


class Examples(unittest.TestCase):

    def check(self, text, many):
        example = doctest.DocTestParser().get_doctest(text, {}, "example", None, 0)
        said = []
        outcome = doctest.DocTestRunner(verbose=False).run(example, out=said.append)
        self.assertEqual((outcome.failed, outcome.attempted), (0, many), "".join(said))

    def test_books(self):
        self.check(BOOKS, 2)

    def test_pens(self):
        self.check(PENS, 3)

    def test_ages(self):
        self.check(AGES, 3)

    def test_windows(self):
        self.check(WINDOWS, 3)

    def test_evens(self):
        self.check(EVENS, 2)

    def test_webs(self):
        self.check(WEBS, 4)

    def test_finds(self):
        self.check(FINDS, 3)

    def test_counts(self):
        self.check(COUNTS, 3)

    def test_sides(self):
        self.check(SIDES, 3)

    def test_sums(self):
        self.check(SUMS, 3)

    def test_variants(self):
        self.check(VARIANTS, 3)

    def test_notation(self):
        self.check(NOTATION, 2)
        with self.assertRaises(BadLine) as caught:
            read_book("start a\na ab")
        self.assertEqual((caught.exception.line, caught.exception.word), (2, 2))

    def test_census(self):
        self.check(CENSUS, 2)

    def test_desk(self):
        self.check(DESK, 2)

    def test_pictures(self):
        self.check(PICTURES, 3)

    def test_crowds(self):
        self.check(CROWDS, 3)


class Names(unittest.TestCase):

    def test_each_is_defined_in_its_own_file(self):
        for module, names in INTERFACE.items():
            for name in names:
                with self.subTest(module=module, name=name):
                    value = getattr(importlib.import_module(module), name)
                    self.assertEqual((value.__module__, value.__name__), (module, name))

    def test_the_desk_has_its_method_itself(self):
        self.assertIn("ask", vars(importlib.import_module("strokeonce.desk").Desk))


if __name__ == "__main__":
    unittest.main()
