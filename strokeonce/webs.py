"""The near pairs that the strokes of all ages have, and what they tell of all ages."""

from strokeonce.checks import is_integer
from strokeonce.pairs import comes_again, draws_same, growth_of
from strokeonce.pens import draw
from strokeonce.spinning import MOST_PAIRS, web_of


def web(book):
    """(x, y, letter, turn, other, age) for all near pairs, with their first ages, ascending."""
    return tuple(sorted([(*pair, age) for pair, age in web_of(book).ages.items()]))


def twice_age(book):
    """The first age at which two strokes draw the same, None for never."""
    return web_of(book).first_age(draws_same)


def never_twice(book):
    """Whether at no age two strokes draw the same."""
    return twice_age(book) is None


def meeting_age(book):
    """The first age at which the pen comes to a place twice, None for never."""
    return web_of(book).first_age(comes_again)


def never_meets(book):
    """Whether at no age the pen comes to a place twice."""
    return meeting_age(book) is None


def is_near_pair(growth, value):
    """Whether a value is a near pair of letters that come."""
    if not isinstance(value, tuple) or len(value) != 5:
        return False
    if not all([is_integer(number) for number in value]):
        return False
    x, y, letter, turn, other = value
    known = letter in growth.letters and other in growth.letters
    return known and 0 <= turn <= 3 and growth.is_near(x, y)


def are_ascending_pairs(growth, value):
    """Whether a value is an ascending tuple of near pairs that is not too long."""
    if not isinstance(value, tuple) or len(value) > MOST_PAIRS:
        return False
    if not all([is_near_pair(growth, pair) for pair in value]):
        return False
    return all([pair < after for pair, after in zip(value, value[1:])])


def has_all_grown(growth, held):
    """Whether with each pair those that it becomes are held."""
    done = set()
    for pair in held:
        for half in growth.halves(pair):
            if half not in done:
                done.add(half)
                if not all([whole in held for whole in growth.wholes(half)]):
                    return False
    return True


def shows(growth, start, value):
    """Whether a value has all that shows, without the web, that no stroke is ever drawn twice."""
    if not are_ascending_pairs(growth, value) or any([draws_same(pair) for pair in value]):
        return False
    held = {pair: True for pair in value}
    drawings = [draw(start)] + list(growth.drawn.values())
    begun = [pair for strokes in drawings for pair in growth.near_within(strokes)]
    return all([pair in held for pair in begun]) and has_all_grown(growth, held)


def shows_never_twice(book, value):
    """Whether a value shows that no stroke is ever drawn twice."""
    if shows(growth_of(book), book[1], value):
        return True
    # A value that shows it holds the whole web, which then is none too great.
    # Whatever else the value is, a web that is too great is told.
    web_of(book)
    return False
