"""How many pairs of strokes of an age draw the same, or end in one place."""

from strokeonce.checks import check_book_and_age
from strokeonce.growth import strokes_of
from strokeonce.nearness import middle_nearness
from strokeonce.pairs import draws_same, ends_together
from strokeonce.pens import draw
from strokeonce.sources import Sources
from strokeonce.spinning import check_many, seeds_of

MOST_AGE_COUNTED = 300


def turned_round(rows):
    """For each member of the rows of a table the keys in whose rows it stands."""
    befores = {}
    for key, row in rows.items():
        for member in row:
            befores.setdefault(member, []).append(key)
    return befores


def leading_to(found, halves, wholes):
    """The pairs, and the half-grown ones, that become one of some pairs at any age."""
    befores_of_whole = turned_round(wholes)
    befores_of_half = turned_round(halves)
    pairs = {pair: True for pair in found}
    half_grown = {}
    waiting = list(found)
    while waiting:
        whole = waiting.pop()
        fresh = [half for half in befores_of_whole.get(whole, []) if half not in half_grown]
        for half in fresh:
            half_grown[half] = True
            for pair in befores_of_half[half]:
                if pair not in pairs:
                    pairs[pair] = True
                    waiting.append(pair)
    return list(pairs), list(half_grown)


def numbered(rows, keys, members):
    """The rows of some keys with each member as its number among the told ones, others left out."""
    numbers = {member: number for number, member in enumerate(members)}
    return [[numbers[member] for member in rows.get(key, ()) if member in numbers] for key in keys]


def sums_over(rows, values):
    return [sum([values[number] for number in row]) for row in rows]


class Tally:
    """How many wanted pairs there are among what pairs and letters become, age by age.

    Only pairs that become wanted ones at some age are counted with: they are
    few, where all pairs of the web at each of hundreds of ages would take long.
    """

    def __init__(self, web, wanted):
        self.growth = web.seeds.growth
        self.nearness = web.nearness
        pairs, half_grown = leading_to([pair for pair in web.ages if wanted(pair)], web.half_rows, web.whole_rows)
        self.half_rows = numbered(web.half_rows, pairs, half_grown)
        self.whole_rows = numbered(web.whole_rows, half_grown, pairs)
        self.pairs = pairs
        self.wanted = [1 if wanted(pair) else 0 for pair in pairs]

    def rows_within(self, drawings):
        """For each of some drawings its near pairs, numbered."""
        near = {number: self.nearness.near_within(strokes) for number, strokes in enumerate(drawings)}
        return numbered(near, list(near), self.pairs)

    def total(self, word, age):
        """How many pairs are wanted at an age of the drawing that begins with a word."""
        words = self.growth.words
        letters = self.growth.letters
        rows = self.rows_within([self.growth.drawn[letter] for letter in letters])
        # How many wanted pairs each pair, and each letter, has become by an age.
        from_pairs = self.wanted
        from_letters = {letter: 0 for letter in letters}
        for _ in range(age):
            within = sums_over(rows, from_pairs)
            from_letters = {letter: strokes_of(words[letter], from_letters) + beside
                            for letter, beside in zip(letters, within)}
            from_pairs = sums_over(self.half_rows, sums_over(self.whole_rows, from_pairs))
        begun = self.rows_within([draw(word)])
        return strokes_of(word, from_letters) + sums_over(begun, from_pairs)[0]


def count_pairs(book, age, wanted):
    check_book_and_age(book, age, MOST_AGE_COUNTED)
    seeds = seeds_of(book)
    check_many(seeds)
    web = Sources(seeds, middle_nearness(seeds.growth))
    # A pair that comes first at the told age needs not grow any more.
    web.spin(age)
    return Tally(web, wanted).total(book[1], age)


def twice_pairs(book, age):
    """How many pairs of strokes of an age draw the same."""
    return count_pairs(book, age, draws_same)


def meeting_pairs(book, age):
    """How many pairs of strokes of an age end in one place."""
    return count_pairs(book, age, ends_together)
