"""Books whose words all go the same way on."""

from strokeonce.books import coming_letters
from strokeonce.checks import check_book
from strokeonce.paths import lay_strokes


def ends_of_words(words, letters):
    """Where the pen ends for the word of each letter, as (x, y, heading)."""
    return [lay_strokes(words[letter])[1] for letter in letters]


def is_steady(book):
    """Whether the turns of each word come to nought modulo 4, for the letters that come."""
    check_book(book)
    words, start = book
    ends = ends_of_words(words, coming_letters(words, start))
    return all([end[2] == 0 for end in ends])


def multiple_for(words, letters):
    """The place at which the words of all these letters end with the heading 0, else None."""
    ends = ends_of_words(words, letters)
    x, y, _ = ends[0]
    if any([end != (x, y, 0) for end in ends]):
        return None
    return x, y


def multiple(book):
    """The multiple of an even book, None for another one."""
    check_book(book)
    words, start = book
    return multiple_for(words, coming_letters(words, start))
