"""The examples of the document's interface, word for word, and where the names stand."""

import doctest
import importlib
import unittest

BOOKS = '''
>>> from strokeonce.books import first_ages
>>> first_ages((((0, "+", 1), (1,), (2,)), (0,)))
((0, 0), (1, 1))
'''

PENS = '''
>>> from strokeonce.pens import drawing, drawn_twice, word_at
>>> book = (((0, "+", 0, "-"),), (0,))
>>> [word_at(book, 2), drawing(book, 1), drawn_twice((((0,),), (0, "+", "+", 0)), 0)]
[(0, '+', 0, '-', '+', 0, '+', 0, '-', '-'), ((0, 0, 0, 0), (1, 0, 1, 0)), (0, 1)]
'''

INTERFACE = {
    "strokeonce.books": ("first_ages",),
    "strokeonce.pens": ("word_at", "drawing", "drawn_twice"),
}


class Examples(unittest.TestCase):

    def check(self, text, many):
        example = doctest.DocTestParser().get_doctest(text, {}, "example", None, 0)
        said = []
        outcome = doctest.DocTestRunner(verbose=False).run(example, out=said.append)
        self.assertEqual((outcome.failed, outcome.attempted), (0, many), "".join(said))

    def test_books(self):
        self.check(BOOKS, 2)

    def test_pens(self):
        self.check(PENS, 3)


class Names(unittest.TestCase):

    def test_each_is_defined_in_its_own_file(self):
        for module, names in INTERFACE.items():
            for name in names:
                with self.subTest(module=module, name=name):
                    function = getattr(importlib.import_module(module), name)
                    self.assertEqual((function.__module__, function.__name__), (module, name))


if __name__ == "__main__":
    unittest.main()
