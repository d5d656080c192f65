"""Books made of a book: turned over, turned round, and in longer steps."""

from strokeonce.checks import MOST_PARTS, check_book, check_number
from strokeonce.errors import Branching, TooMany
from strokeonce.pens import replace_letters

OTHER_TURNS = {"+": "-", "-": "+"}
MOST_SPEED = 4


def turned_over(word):
    """A word with the turns to the left and to the right exchanged."""
    return tuple([OTHER_TURNS.get(part, part) for part in word])


def mirrored(book):
    """The book with left and right exchanged."""
    check_book(book)
    words, start = book
    return tuple([turned_over(word) for word in words]), turned_over(start)


def backward(book):
    """The book that draws each age's path from its end, with the heading there taken as 0."""
    check_book(book)
    words, start = book
    for word in words + (start,):
        if "[" in word:
            raise Branching("a word with a branch has no way back")
    return tuple([turned_over(word)[::-1] for word in words]), turned_over(start)[::-1]


def sped(book, many):
    """The book whose words are those that the letters become in so many ages."""
    check_book(book)
    check_number(many, 1, MOST_SPEED)
    words, start = book
    grown = words
    for _ in range(many - 1):
        grown = tuple([replace_letters(word, grown) for word in words])
        # No word is shorter than the one of an age ahead, so that it never comes back to few parts.
        if any([len(word) > MOST_PARTS for word in grown]):
            raise TooMany(MOST_PARTS)
    return grown, start
