"""The first two strokes that draw the same, or come to one place, by their numbers.

The way of a stroke tells, for each age up to its own, the index of the stroke
that it comes from: at age 0 among the strokes of start, then among those of
the word of the letter that it comes from.
"""

from strokeonce.books import ages_of_letters
from strokeonce.nearness import middle_nearness
from strokeonce.pairs import comes_again, draws_same, pair_of
from strokeonce.pens import count_letters, draw, next_counts
from strokeonce.sources import Sources
from strokeonce.spinning import first_age, seeds_of


def letters_of(word):
    """The letters of a word in order, as often as they stand in it."""
    return [part for part in word if not isinstance(part, str)]


def number_of(book, way):
    """The number of the stroke that has come by a way."""
    words, word = book
    many = len(words)
    table = [count_letters(each, many) for each in words]
    # How often each letter stands ahead of the stroke.
    ahead = [0] * many
    for index in way:
        letters = letters_of(word)
        grown = next_counts(ahead, table)
        beside = count_letters(letters[:index], many)
        ahead = [one + other for one, other in zip(grown, beside)]
        word = words[letters[index]]
    return sum(ahead)


def way_to_letter(book, letter):
    """The way of a stroke with a letter, at the first age at which the letter comes."""
    words, start = book
    ages = ages_of_letters(words, start)
    way = []
    while ages[letter] > 0:
        # The letters are in the order in which they come, so that the first one comes just an age ahead.
        befores = [before for before in ages if letter in words[before]]
        way.append(letters_of(words[befores[0]]).index(letter))
        letter = befores[0]
    way.append(letters_of(start).index(letter))
    way.reverse()
    return way


def indexes_within(strokes, pair):
    """The indexes of two strokes of one drawing that are a pair."""
    found = [(number, other) for other, second in enumerate(strokes)
             for number, first in enumerate(strokes[:other]) if pair_of(first, second) == pair]
    return found[0]


def indexes_between(growth, pair, grown):
    """The indexes of two strokes, one of each letter's word, as which a pair becomes another one."""
    firsts = growth.drawn[pair[2]]
    seconds = growth.second_word(pair)
    found = [(number, other) for other, second in enumerate(seconds)
             for number, first in enumerate(firsts) if pair_of(first, second) == grown]
    return found[0]


def ways_of_pair(book, growth, sources, pair):
    """The ways of two strokes that are a pair, at its first age; sources tell where pairs come from."""
    words, start = book
    steps = []
    source = sources[pair]
    while isinstance(source, tuple):
        steps.append(indexes_between(growth, source, pair))
        pair = source
        source = sources[pair]
    if source is None:
        way = []
        steps.append(indexes_within(draw(start), pair))
    else:
        way = way_to_letter(book, source)
        steps.append(indexes_within(draw(words[source]), pair))
    steps.reverse()
    return way + [first for first, _ in steps], way + [second for _, second in steps]


def first_pair_of(book, wanted):
    """(age, i, j) for the first age at which two strokes are such a pair, None for never."""
    seeds = seeds_of(book)
    age = first_age(seeds, wanted)
    if age is None:
        return None
    web = Sources(seeds, middle_nearness(seeds.growth))
    web.spin(age)
    pair = min([pair for pair in web.ages if wanted(pair)])
    first, second = ways_of_pair(book, seeds.growth, web.sources, pair)
    return age, number_of(book, first), number_of(book, second)


def first_twice(book):
    """(age, i, j), the first age at which two strokes draw the same, and two that do."""
    return first_pair_of(book, draws_same)


def first_meeting(book):
    """(age, i, j), the first age at which a place is come to twice, and two strokes that do.

    The second one ends where the first one begins or ends.
    """
    return first_pair_of(book, comes_again)
