"""The finite web of near pairs, spun age by age."""

from strokeonce.books import ages_of_letters
from strokeonce.errors import TooMany
from strokeonce.grids import Field, marks_of, put_marks, without
from strokeonce.nearness import farness_nearness, middle_nearness, places_in_disc
from strokeonce.pairs import growth_of
from strokeonce.pens import draw
from strokeonce.sources import Sources

MOST_PAIRS = 20000

# So many of an age's new pairs, or a few more, grow at once.
MOST_AT_ONCE = 1000

# The limit for middles, for each two letters, up to which so few pairs may come that they are done one by one: by
# then not even the grids would be made.
FEW = 16


class Seeds:
    """What a web is spun from.

    start has the strokes of age 0. beside has those of a second drawing if the
    pairs are those of both drawings, None if they are those of the one. Then
    letters_at has for each age the letters that come first at it, as pairs
    stand in their words; it is void for two drawings.
    """

    def __init__(self, growth, start, beside, letters_at):
        self.growth = growth
        self.start = start
        self.beside = beside
        self.letters_at = letters_at

    def pairs_at_0(self, nearness):
        if self.beside is None:
            return nearness.near_within(self.start)
        return nearness.near_between(self.start, self.beside)

    def pairs_within(self, nearness, age):
        """The near pairs in the words of the letters that come first at an age."""
        return [pair for letters in self.letters_at[age:age + 1] for letter in letters
                for pair in nearness.near_within(self.growth.drawn[letter])]


def letters_by_first_age(words, start):
    """For each age the letters that come first at it, in a list."""
    ages = ages_of_letters(words, start)
    rows = [[] for _ in range(max(ages.values()) + 1)]
    for letter, age in ages.items():
        rows[age].append(letter)
    return rows


def seeds_of(book):
    """What the web of an even book is spun from."""
    growth = growth_of(book)
    words, start = book
    return Seeds(growth, draw(start), None, letters_by_first_age(words, start))


class Spin:
    """The new near pairs of one age behind the other; fresh has their grids."""

    def __init__(self, seeds, nearness):
        self.seeds = seeds
        self.nearness = nearness
        self.field = Field(nearness)
        self.age = 0
        self.fresh = {}
        self._seen = {}
        # A half-grown pair that comes again becomes nothing new.
        self._done = {}
        self._grown = self.field.grids_of(seeds.pairs_at_0(nearness))
        self.put_grown()

    def left(self):
        """The grids of the pairs that have grown for the next age and were not there yet."""
        return without(self._grown, self._seen)

    def put_grown(self):
        self.fresh = self.left()
        put_marks(self.fresh, self._seen)
        self._grown = {}

    def is_over(self):
        """Whether neither this age nor any later one has new pairs."""
        return not self.fresh and self.age >= len(self.seeds.letters_at)

    def has(self, masks):
        """Whether a new pair is among those that each turn's mask has."""
        return any([grid & masks[key[1]] for key, grid in self.fresh.items()])

    def grow(self, grids):
        """Let some of the new pairs grow; their indexes are returned."""
        indexes = {key: marks_of(grid) for key, grid in grids.items()}
        halves = without(self.field.half_grown(indexes), self._done)
        put_marks(halves, self._done)
        put_marks(self.field.grown(halves), self._grown)
        return indexes

    def go_on(self):
        """Go to the next age, when all new pairs have grown."""
        within = self.seeds.pairs_within(self.nearness, self.age)
        put_marks(self.field.grids_of(within), self._grown)
        self.age += 1
        self.put_grown()


def count_more(grids, many):
    """A number and how many marks some grids have; TooMany is raised where these are too many."""
    for grid in grids.values():
        figures = f"{grid:b}"
        many += figures.count("1")
        if many > MOST_PAIRS:
            raise TooMany(MOST_PAIRS)
    return many


def parted(grids, many):
    """Some grids, that have so many marks, in parts."""
    keys = list(grids)
    step = len(keys) // (many // MOST_AT_ONCE + 1) + 1
    return [{key: grids[key] for key in keys[begin:begin + step]} for begin in range(0, len(keys), step)]


def spin_all(seeds):
    """The field of the web of point 7, and the indexes of all its pairs, in parts, each behind its first age."""
    spin = Spin(seeds, farness_nearness(seeds.growth))
    found = []
    many = 0
    while not spin.is_over():
        ahead = many
        many = count_more(spin.fresh, many)
        parts = parted(spin.fresh, many - ahead)
        for part in parts:
            found.append((spin.age, spin.grow(part)))
            # Where too many pairs come, most of them come at one age: a part of what they come from tells it.
            if len(parts) > 1:
                count_more(spin.left(), many)
        spin.go_on()
    return spin.field, found


def check_many(seeds):
    """Raise TooMany if the web has too many pairs; it is spun only if there may be so many near ones at all."""
    growth = seeds.growth
    letters = len(growth.letters)
    if 4 * letters * letters * places_in_disc(farness_nearness(growth).discs[0]) > MOST_PAIRS:
        spin_all(seeds)


def first_ages(seeds, kinds):
    """For each kind of wanted pairs, which have a place in common, the first age with such a pair, None for never."""
    check_many(seeds)
    growth = seeds.growth
    nearness = middle_nearness(growth)
    if nearness.most * len(growth.letters) * len(growth.letters) <= FEW:
        web = Sources(seeds, nearness)
        web.spin(None)
        return [web.first_age(wanted) for wanted in kinds]
    spin = Spin(seeds, nearness)
    masks = [spin.field.masks(wanted) for wanted in kinds]
    ages = [None for _ in kinds]
    while not spin.is_over():
        for number, row in enumerate(masks):
            if ages[number] is None and spin.has(row):
                ages[number] = spin.age
        if None not in ages:
            break
        spin.grow(spin.fresh)
        spin.go_on()
    return ages


def first_age(seeds, wanted):
    return first_ages(seeds, (wanted,))[0]
