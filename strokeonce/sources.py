"""Where pairs come from, and what they become, pair by pair."""

from strokeonce.steps import Steps


class Sources:
    """The near pairs by a measure, each with its first age and where it comes from then.

    ages has the first age of each pair. sources has for each the pair of the
    age ahead that becomes it, or the letter in whose word it stands, or None
    for one that is there at age 0. half_rows and whole_rows have what pairs,
    and half-grown ones, become.
    """

    def __init__(self, seeds, nearness):
        self.seeds = seeds
        self.nearness = nearness
        self.steps = Steps(nearness)
        self.ages = {}
        self.sources = {}
        self.half_rows = {}
        self.whole_rows = {}

    def put(self, pairs, age, source):
        """The pairs that are new are put in, and returned."""
        fresh = []
        for pair in pairs:
            if pair not in self.ages:
                self.ages[pair] = age
                self.sources[pair] = source
                fresh.append(pair)
        return fresh

    def put_grown(self, pair, age):
        """What a pair becomes by an age is put in; the new pairs are returned."""
        halves = self.steps.halves(pair)
        self.half_rows[pair] = halves
        fresh = []
        for half in halves:
            # A half-grown pair that comes again becomes nothing new.
            if half not in self.whole_rows:
                wholes = self.steps.wholes(half)
                self.whole_rows[half] = wholes
                fresh.extend(self.put(wholes, age, pair))
        return fresh

    def put_within(self, letter, age):
        """What stands in a letter's word is put in, for an age; the new pairs are returned."""
        strokes = self.seeds.growth.drawn[letter]
        return self.put(self.nearness.near_within(strokes), age, letter)

    def spin(self, last):
        """Put in all pairs of the ages to the last one that is asked for, None for all ages."""
        letters_at = self.seeds.letters_at
        fresh = self.put(self.seeds.pairs_at_0(self.nearness), 0, None)
        age = 0
        while age != last and (fresh or age < len(letters_at)):
            grown = []
            for letters in letters_at[age:age + 1]:
                for letter in letters:
                    grown.extend(self.put_within(letter, age + 1))
            for pair in fresh:
                grown.extend(self.put_grown(pair, age + 1))
            fresh = grown
            age += 1

    def first_age(self, wanted):
        """The first age at which a pair is there that is wanted, None for never."""
        return min([age for pair, age in self.ages.items() if wanted(pair)], default=None)
