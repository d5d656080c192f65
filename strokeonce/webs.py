"""The near pairs that the strokes of all ages have, and what they tell of all ages."""

from strokeonce.grids import Field, grid_of, without
from strokeonce.nearness import farness_nearness
from strokeonce.pairs import comes_again, draws_same
from strokeonce.spinning import MOST_PAIRS, check_many, first_age, seeds_of, spin_all


def web(book):
    """(x, y, letter, turn, other, age) for all near pairs, with their first ages, ascending."""
    field, found = spin_all(seeds_of(book))
    ages = {}
    for age, pairs in found:
        for key, indexes in pairs.items():
            ages.setdefault(key, []).append((age, indexes))
    places = field.places()
    # What stands behind x and y in the rows, for each place: put there in order, as sorting all rows takes longer.
    rests = [[] for _ in places]
    for key in sorted(ages):
        for age, indexes in ages[key]:
            rest = (*key, age)
            for index in indexes:
                rests[index].append(rest)
    return tuple([(x, y, *rest) for (x, y), row in zip(places, rests) for rest in row])


def twice_age(book):
    """The first age at which two strokes draw the same, None for never."""
    return first_age(seeds_of(book), draws_same)


def never_twice(book):
    """Whether at no age two strokes draw the same."""
    return twice_age(book) is None


def meeting_age(book):
    """The first age at which the pen comes to a place twice, None for never."""
    return first_age(seeds_of(book), comes_again)


def never_meets(book):
    """Whether at no age the pen comes to a place twice."""
    return meeting_age(book) is None


def are_ascending_fives(value):
    """Whether a value is an ascending tuple, not too long, of tuples of five integers."""
    if not isinstance(value, tuple) or len(value) > MOST_PAIRS:
        return False
    if not all([isinstance(row, tuple) and len(row) == 5 for row in value]):
        return False
    # True and False are no integers here, as everywhere in the package.
    if not all([type(number) is int for row in value for number in row]):
        return False
    return all([row < after for row, after in zip(value, value[1:])])


def are_near_pairs(growth, value):
    """Whether all fives of integers are near pairs of letters that come."""
    far = growth.farness
    letters = {letter: True for letter in growth.letters}
    return all([letter in letters and 0 <= turn <= 3 and other in letters and x * x + y * y <= far * far
                for x, y, letter, turn, other in value])


def shows(seeds, value):
    """Whether a value has all that shows, without the web, that no stroke is ever drawn twice."""
    growth = seeds.growth
    if not are_ascending_fives(value) or not are_near_pairs(growth, value):
        return False
    nearness = farness_nearness(growth)
    field = Field(nearness)
    indexes = field.indexes_of(value)
    held = {key: grid_of(row) for key, row in indexes.items()}
    masks = field.masks(draws_same)
    if any([grid & masks[key[1]] for key, grid in held.items()]):
        return False
    begun = seeds.pairs_at_0(nearness)
    for strokes in growth.drawn.values():
        begun.extend(nearness.near_within(strokes))
    if without(field.grids_of(begun), held):
        return False
    return not without(field.grown(field.half_grown(indexes)), held)


def shows_never_twice(book, value):
    """Whether a value shows that no stroke is ever drawn twice."""
    seeds = seeds_of(book)
    if shows(seeds, value):
        return True
    # A value that shows it holds the whole web, which then is none too great.
    # Whatever else the value is, a web that is too great is told.
    check_many(seeds)
    return False
