"""What ages that are far beyond all others come to, by rests, and books that are alike at all ages."""

from strokeonce.ages import outside_branches
from strokeonce.books import coming_letters
from strokeonce.checks import check_book, check_book_and_age, check_number
from strokeonce.errors import NotSteady
from strokeonce.evens import is_steady
from strokeonce.growth import ends_by_age, strokes_by_age, strokes_of
from strokeonce.paths import STEPS, lay, lay_strokes
from strokeonce.pens import count_letters

MOST_AGE_SUMMED = 10 ** 40
MOST_MODULUS = 10 ** 18


def sums_by_rows(rows, values, modulus):
    """For each row the sum of the values, each as often as the row tells, modulo a modulus."""
    return [sum([times * value for times, value in zip(row, values)]) % modulus for row in rows]


def two_steps(rows, modulus):
    """The rows that do in one step what some rows do in two."""
    columns = [sums_by_rows(rows, column, modulus) for column in zip(*rows)]
    return [list(row) for row in zip(*columns)]


def values_at(rows, values, age, modulus):
    """The values of an age: each is a sum of those of the age ahead, as its row tells.

    The age is so far that the steps are doubled instead of taken one by one.
    """
    left = age
    while left > 0:
        if left % 2 == 1:
            values = sums_by_rows(rows, values, modulus)
        rows = two_steps(rows, modulus)
        left //= 2
    return values


def check_age_and_modulus(book, age, modulus):
    check_book_and_age(book, age, MOST_AGE_SUMMED)
    check_number(modulus, 2, MOST_MODULUS)


def check_steady(book):
    if not is_steady(book):
        raise NotSteady("the turns of each word must come to nought modulo 4")


def strokes_modulo(book, age, modulus):
    """The rest of the number of strokes of an age."""
    check_age_and_modulus(book, age, modulus)
    words, start = book
    many = len(words)
    rows = [count_letters(word, many) for word in words]
    strokes = values_at(rows, [1] * many, age, modulus)
    return sums_by_rows([count_letters(start, many)], strokes, modulus)[0]


def end_rows(word, many):
    """Two rows that tell x and y of the end of a word from x and y of the end of each letter's path.

    For words of a steady book: their letters keep the heading at all ages.
    """
    row_x = [0] * (2 * many)
    row_y = [0] * (2 * many)
    for _, _, heading, letter in lay_strokes(outside_branches(word))[0]:
        right, up = STEPS[heading]
        row_x[2 * letter] += right
        row_x[2 * letter + 1] -= up
        row_y[2 * letter] += up
        row_y[2 * letter + 1] += right
    return [row_x, row_y]


def end_modulo(book, age, modulus):
    """The rests of x and y of the place at which the pen ends."""
    check_age_and_modulus(book, age, modulus)
    check_steady(book)
    words, start = book
    many = len(words)
    rows = [row for word in words for row in end_rows(word, many)]
    ends = values_at(rows, [1, 0] * many, age, modulus)
    return tuple(sums_by_rows(end_rows(start, many), ends, modulus))


def telling_age(one, other):
    """The last age that needs a look where two books are to be told apart.

    Numbers of strokes, and ends of steady books taken as complex numbers, are
    sums over as many values as a book has letters, and each age has its values
    from those ahead by the same sums. Two such that agree for as many ages as
    both books have letters agree at all ages.
    """
    return len(one[0]) + len(other[0]) - 1


def counts_to(book, age):
    """How many strokes each age has, to the told one."""
    words, start = book
    rows = strokes_by_age(words, coming_letters(words, start), age)
    return [strokes_of(start, row) for row in rows]


def end_places_to(book, age):
    """The place at which the pen ends at each age, to the told one."""
    words, start = book
    rows = ends_by_age(words, coming_letters(words, start), age)
    return [lay(start, row)[1][:2] for row in rows]


def first_unlike(firsts, seconds):
    """The first index at which two lists have unlike members, None if there is none."""
    for index, (first, second) in enumerate(zip(firsts, seconds)):
        if first != second:
            return index
    return None


def first_unlike_count(one, other):
    """The first age at which two books have unlike numbers of strokes, None for never."""
    check_book(one)
    check_book(other)
    age = telling_age(one, other)
    return first_unlike(counts_to(one, age), counts_to(other, age))


def first_unlike_end(one, other):
    """The first age at which two steady books end at unlike places, None for never."""
    check_book(one)
    check_book(other)
    check_steady(one)
    check_steady(other)
    age = telling_age(one, other)
    return first_unlike(end_places_to(one, age), end_places_to(other, age))
