"""What the kinds of strokes tell of all ages: how many there are, and how often the same is drawn.

Limits are looked at while the ages are gone through, one behind the other, and
in each its strokes in order: the one that is passed first is told.
"""

from strokeonce.checks import check_book_and_age
from strokeonce.errors import TooMany
from strokeonce.kinds import Crowd
from strokeonce.pairs import comes_to_end, draws_same, ends_together, growth_of
from strokeonce.pens import draw

MOST_KINDS = 3000
MOST_AGE_TOLD = 300


def put_new(ages, kinds, age):
    """Put the age of kinds into ages where they have none; the new kinds are returned."""
    fresh = []
    for kind in kinds:
        if kind not in ages:
            ages[kind] = age
            fresh.append(kind)
            if len(ages) > MOST_KINDS:
                raise TooMany(MOST_KINDS)
    return fresh


def crowd_of_all_ages(book):
    """The crowd of a book, and the first age of each kind that comes."""
    crowd = Crowd(growth_of(book))
    ages = {}
    fresh = put_new(ages, crowd.kinds_within(draw(book[1])), 0)
    age = 0
    while fresh:
        age += 1
        grown = []
        for kind in fresh:
            grown.extend(put_new(ages, crowd.children(kind), age))
        fresh = grown
    return crowd, ages


def kinds_that_come(book):
    """How many unlike kinds the strokes of all ages have."""
    _, ages = crowd_of_all_ages(book)
    return len(ages)


def greatest_group(book, wanted):
    """The greatest number of strokes of one age of which each two are a wanted pair, and the first age with it."""
    crowd, ages = crowd_of_all_ages(book)
    marks = [1 if wanted(pair) else 0 for pair, _ in crowd.sights]
    groups = {kind: 1 + sum([marks[sight] for sight in crowd.kinds[kind][1]]) for kind in ages}
    most = max(list(groups.values()))
    return most, min([ages[kind] for kind, many in groups.items() if many == most])


def most_drawn(book):
    """The greatest number of strokes of one age that draw the same, and the first age with so many."""
    return greatest_group(book, draws_same)


def most_ending(book):
    """The greatest number of strokes of one age that end in one place, and the first age with so many."""
    return greatest_group(book, ends_together)


def next_numbers(crowd, numbers):
    """How many strokes of each kind the next age has."""
    after = {}
    for kind, many in numbers.items():
        for child in crowd.children(kind):
            after[child] = after.get(child, 0) + many
            if len(after) > MOST_KINDS:
                raise TooMany(MOST_KINDS)
    return after


def count_first(book, age, wanted):
    """How many strokes of an age are in no wanted pair with a stroke ahead of them."""
    check_book_and_age(book, age, MOST_AGE_TOLD)
    crowd = Crowd(growth_of(book))
    numbers = {}
    for kind in crowd.kinds_within(draw(book[1])):
        numbers[kind] = numbers.get(kind, 0) + 1
    for _ in range(age):
        numbers = next_numbers(crowd, numbers)
    marks = [wanted(pair) and not later for pair, later in crowd.sights]
    return sum([many for kind, many in numbers.items() if not any([marks[sight] for sight in crowd.kinds[kind][1]])])


def different_strokes(book, age):
    """How many strokes of an age draw what no stroke ahead of them draws."""
    return count_first(book, age, draws_same)


def different_places(book, age):
    """How many unlike places the pen comes to.

    Where a stroke ahead begins, the pen has come to as well, and where the
    first one begins, the pen is at the beginning: so a stroke comes to a new
    place just if none ahead begins or ends there.
    """
    return 1 + count_first(book, age, comes_to_end)
