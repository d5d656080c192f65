"""All short books of one letter that are even by their turns alone, and what comes of them."""

from strokeonce.checks import check_number
from strokeonce.notation import text_of_word
from strokeonce.pairs import LEAST_NORM, comes_again, draws_same
from strokeonce.paths import lay_strokes
from strokeonce.spinning import first_ages, seeds_of
from strokeonce.variants import turned_over

LEAST_STROKES = 2
MOST_STROKES = 5

# What may stand ahead of a stroke, in order.
TURNS = ((), ("+",), ("-",))


def beginnings(many):
    """All words of so many strokes, with a turn or none ahead of each, in the order of their turns."""
    words = [()]
    for _ in range(many):
        words = [word + turn + (0,) for word in words for turn in TURNS]
    return words


def turned_back(word):
    """The words that a word becomes by none or one turn at its end by which its turns come to nought."""
    return [word + turn for turn in TURNS if (word + turn).count("+") == (word + turn).count("-")]


def words_of(many):
    return [word for begun in beginnings(many) for word in turned_back(begun)]


def ages_of(word, known):
    """(twice_age, meeting_age) of a word's book; known has those of words, and gets the ones that are found.

    A drawing that is turned over, or begun at its end, draws the same strokes
    twice and comes to the same places twice: so do up to four words.
    """
    if word not in known:
        twice, meets = first_ages(seeds_of(((word,), (0,))), (draws_same, comes_again))
        over = turned_over(word)
        for other in (word, over, word[::-1], over[::-1]):
            known[other] = twice, meets
    return known[word]


def census(many):
    """(text, multiple, twice_age, meeting_age) for all words of so many strokes whose turns come to nought."""
    check_number(many, LEAST_STROKES, MOST_STROKES)
    rows = []
    known = {}
    for word in words_of(many):
        x, y, _ = lay_strokes(word)[1]
        if x * x + y * y >= LEAST_NORM:
            twice, meets = ages_of(word, known)
            rows.append((text_of_word(word), (x, y), twice, meets))
    return tuple(rows)
