"""All short books of one letter that are even by their turns alone, and what comes of them."""

from strokeonce.checks import check_number
from strokeonce.notation import text_of_word
from strokeonce.pairs import LEAST_NORM, comes_again, draws_same
from strokeonce.paths import lay_strokes
from strokeonce.spinning import web_of

LEAST_STROKES = 2
MOST_STROKES = 5

# What may stand ahead of a stroke, in order.
TURNS = ((), ("+",), ("-",))


def beginnings(many):
    """All words of so many strokes, with a turn or none ahead of each, in the order of their turns."""
    words = [()]
    for _ in range(many):
        words = [word + turn + (0,) for word in words for turn in TURNS]
    return words


def turned_back(word):
    """The words that a word becomes by none or one turn at its end by which its turns come to nought."""
    return [word + turn for turn in TURNS if (word + turn).count("+") == (word + turn).count("-")]


def words_of(many):
    return [word for begun in beginnings(many) for word in turned_back(begun)]


def row_of(word, place):
    """The row of a word that ends at a place."""
    web = web_of(((word,), (0,)))
    return text_of_word(word), place, web.first_age(draws_same), web.first_age(comes_again)


def census(many):
    """(text, multiple, twice_age, meeting_age) for all words of so many strokes whose turns come to nought."""
    check_number(many, LEAST_STROKES, MOST_STROKES)
    rows = []
    for word in words_of(many):
        x, y, _ = lay_strokes(word)[1]
        if x * x + y * y >= LEAST_NORM:
            rows.append(row_of(word, (x, y)))
    return tuple(rows)
