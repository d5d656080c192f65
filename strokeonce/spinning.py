"""The finite web of near pairs, spun age by age."""

from strokeonce.books import ages_of_letters
from strokeonce.errors import TooMany
from strokeonce.pairs import growth_of
from strokeonce.pens import draw

MOST_PAIRS = 20000


class Web:
    """Near pairs, each with the first age at which it is there, and where it comes from then.

    ages has the first age of each pair. sources has for each the pair of the
    age ahead that becomes it, or the letter in whose word it stands, or None
    for one that is there at age 0.
    """

    def __init__(self, growth):
        self.growth = growth
        self.ages = {}
        self.sources = {}
        # A half-grown pair that comes again becomes nothing new.
        self._done = {}

    def put(self, pairs, age, source):
        """The pairs that are new are put in, and returned."""
        fresh = []
        for pair in pairs:
            if pair not in self.ages:
                self.ages[pair] = age
                self.sources[pair] = source
                fresh.append(pair)
        if len(self.ages) > MOST_PAIRS:
            raise TooMany(MOST_PAIRS)
        return fresh

    def put_grown(self, pair, age):
        """What a pair becomes by an age is put in; the new pairs are returned."""
        fresh = []
        for half in self.growth.halves(pair):
            if half not in self._done:
                self._done[half] = True
                fresh.extend(self.put(self.growth.wholes(half), age, pair))
        return fresh

    def put_within(self, letter, age):
        """What stands in a letter's word is put in, for an age; the new pairs are returned."""
        strokes = self.growth.drawn[letter]
        return self.put(self.growth.near_within(strokes), age, letter)

    def spin(self, begun, letters_at):
        """Put in all pairs, from those of age 0 and, for each age, the letters that come first at it."""
        fresh = self.put(begun, 0, None)
        age = 0
        while fresh or age < len(letters_at):
            grown = []
            for letters in letters_at[age:age + 1]:
                for letter in letters:
                    grown.extend(self.put_within(letter, age + 1))
            for pair in fresh:
                grown.extend(self.put_grown(pair, age + 1))
            fresh = grown
            age += 1

    def first_age(self, wanted):
        """The first age at which a pair is there that is wanted, None for never."""
        return min([age for pair, age in self.ages.items() if wanted(pair)], default=None)


def letters_by_first_age(words, start):
    """For each age the letters that come first at it, in a list."""
    ages = ages_of_letters(words, start)
    rows = [[] for _ in range(max(ages.values()) + 1)]
    for letter, age in ages.items():
        rows[age].append(letter)
    return rows


def web_of(book):
    """The web of an even book."""
    growth = growth_of(book)
    words, start = book
    web = Web(growth)
    web.spin(growth.near_within(draw(start)), letters_by_first_age(words, start))
    return web
