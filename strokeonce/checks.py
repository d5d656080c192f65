"""What the values must be that a caller passes.

A wrong value is never put into a message: Python refuses to write out very
long integers, and would raise an error of its own instead of the named one.
"""

from strokeonce.errors import BadBook, BadNumber, BadPlace, BadWord

MOST_LETTERS = 8
MOST_PARTS = 40
MOST_AGE = 1000
FARTHEST = (10 ** 40) ** 10


def is_integer(value):
    # True and False are integers to Python, but none to the package.
    return isinstance(value, int) and not isinstance(value, bool)


def is_word(value, many):
    """Whether a value is a word, short enough for an argument, of so many letters."""
    if not isinstance(value, tuple) or len(value) > MOST_PARTS:
        return False
    letters = 0
    depth = 0
    for part in value:
        if is_integer(part) and 0 <= part < many:
            letters += 1
        elif part == "[":
            depth += 1
        elif part == "]" and depth > 0:
            depth -= 1
        elif part != "+" and part != "-":
            return False
    return letters > 0 and depth == 0


def has_book_form(value):
    """Whether a value is a pair of a tuple for 1 to 8 letters and anything."""
    if not isinstance(value, tuple) or len(value) != 2:
        return False
    words = value[0]
    return isinstance(words, tuple) and 1 <= len(words) <= MOST_LETTERS


def check_book(value):
    if not has_book_form(value):
        raise BadBook(None)
    words, start = value
    for letter, word in enumerate(words):
        if not is_word(word, len(words)):
            raise BadBook(letter)
    if not is_word(start, len(words)):
        raise BadBook(None)


def check_number(value, least, most):
    if not is_integer(value) or not least <= value <= most:
        raise BadNumber("a number must be an integer within its limits")


def check_age(value, most=MOST_AGE):
    check_number(value, 0, most)


def check_book_and_age(book, age, most=MOST_AGE):
    check_book(book)
    check_age(age, most)


def check_word(value, many):
    """A word of so many letters."""
    if not is_word(value, many):
        raise BadWord("a word must be one of the book's letters")


def is_coordinate(value):
    return is_integer(value) and -FARTHEST <= value <= FARTHEST


def check_place(value):
    if not isinstance(value, tuple) or len(value) != 2:
        raise BadPlace("a place must be a pair")
    x, y = value
    if not is_coordinate(x) or not is_coordinate(y):
        raise BadPlace("a place must have two integers within its limits")
