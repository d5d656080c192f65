"""Whether two drawings beside each other, at whatever age, draw or come to the same."""

from strokeonce.checks import check_book, check_number, check_place, check_word
from strokeonce.pairs import Growth, draws_same, touches
from strokeonce.paths import lay_strokes
from strokeonce.pens import draw
from strokeonce.spinning import Seeds, first_age


def seeds_between(book, word, place, heading):
    """What the web is spun from for a stroke of a book's drawing and one of another drawing beside it."""
    check_book(book)
    words, start = book
    check_word(word, len(words))
    check_place(place)
    check_number(heading, 0, 3)
    growth = Growth(words, start + word)
    beside, _ = lay_strokes(word, (*place, heading))
    # No letter gives a pair by itself here: its word's strokes are of one drawing.
    return Seeds(growth, draw(start), beside, [])


def share_age(book, word, place, heading):
    """The first age at which strokes of both draw the same, None for never."""
    return first_age(seeds_between(book, word, place, heading), draws_same)


def touch_age(book, word, place, heading):
    """The first age at which both come to one place, None for never."""
    return first_age(seeds_between(book, word, place, heading), touches)


def never_share(book, word, place, heading):
    """Whether no stroke of the one ever draws the same as one of the other."""
    return share_age(book, word, place, heading) is None
