"""Values and plain reckonings that several tests share."""

import random

from strokeonce.books import first_ages

DRAGON = (((0, "+", 1, "-"), ("+", 0, "-", 1)), (0,))
LEVY = (((0, "+", 0, "-"),), (0,))
PLANT = (((0, "[", "+", 0, "]", 0),), (0,))
LINE = (((0, 0),), (0,))
FIVE = (((0, "+", 0, "-", 0, "-", 0, "+", 0),), (0,))
FARTHEST = 10 ** 400
SQUARE = (((0, 0),), (0, "+", 0, "+", 0, "+", 0))
THREE = (((0, "+", 1, "-"), ("+", 2, "-", 0), (1, "+", 0, "-")), (0, "+", 2))
SHORT = (((0, "+", 0, "-", 0),), (0,))
BRANCHED = (((0, "[", "-", 0, "]", 0),), ("+", 0, "[", 0, "]"))
# The pair (7, 0, 0, 0, 1) comes from as far away as can be: as far as the farness and the reach together.
BACK = (((0, 0, 0, "+", "+", 1, "+", "+"),) * 2, (0, 0, 0, 0, 0, "+", "+", 0))
SAMPLES = (DRAGON, FIVE, LEVY, LINE, PLANT, SQUARE, THREE, SHORT, BRANCHED, BACK)

# Not steady; not even; even with (0, 0), (1, 0), (0, 1).
UNEVEN = (
    (((0, "+", 0),), (0,)), (((0, 0), (1,)), (0, 1)), (((0, "+", "+", 0, "+", "+"),), (0,)),
    (((0,),), (0,)), ((("+", 0, "-"),), (0,)), ((("[", 0, "]"),), (0,)),
    (((0, 0), (1, 0, "-")), (0, "[", 1, "]")),
)

# A book with a web of more than 20000 pairs.
WIDE = (((0,) + ("[",) + (0,) * 25 + ("]", "+", 0, "-"), (1, "+", 0, "-")), (0, 1))

# Each is a value of a kind that may be passed for any argument, and no book.
OTHER_VALUES = (
    0, 1, -1, 10 ** 5000, "", "+", "start a", True, False, None,
    (), (0,), (((0,),),), (((0,),), (0,), (0,)),
    [], [((0,),), (0,)], {}, {0: (0,)}, {"words": ((0,),), "start": (0,)},
)


def chain(many):
    """A book in which each letter becomes the next one, and the last one itself."""
    words = tuple([(min(letter + 1, many - 1),) for letter in range(many)])
    return (words, (0,))


def random_word(source, many, most):
    """A word of at least one letter, with branches in one another now and then."""
    parts = []
    depth = 0
    for _ in range(source.randrange(most)):
        pick = source.randrange(8)
        if pick < 3:
            parts.append(source.randrange(many))
        elif pick < 6:
            parts.append("+-"[pick % 2])
        elif pick == 6:
            parts.append("[")
            depth += 1
        elif depth:
            parts.append("]")
            depth -= 1
    parts.append(source.randrange(many))
    return tuple(parts + ["]"] * depth)


def random_books(number, seed=7):
    source = random.Random(seed)
    books = []
    for _ in range(number):
        many = source.randint(1, 8)
        words = tuple([random_word(source, many, 6) for _ in range(many)])
        books.append((words, random_word(source, many, 6)))
    return books


def plain_word(book, age):
    """The word of an age, grown part by part."""
    words, word = book
    for _ in range(age):
        word = sum([words[part] if isinstance(part, int) else (part,) for part in word], ())
    return word


def plain_walk(word):
    """The strokes of a word and the pen at its end, each branch drawn by a call of its own."""
    strokes = []

    def draw(index, x, y, heading):
        while index < len(word) and word[index] != "]":
            part = word[index]
            if part == "[":
                index, _ = draw(index + 1, x, y, heading)
            elif part in ("+", "-"):
                heading = (heading + (1 if part == "+" else 3)) % 4
            else:
                strokes.append((x, y, heading, part))
                x, y = step(x, y, heading)
            index += 1
        return index, (x, y, heading)

    _, pen = draw(0, 0, 0, 0)
    return tuple(strokes), pen


def plain_strokes(word):
    return plain_walk(word)[0]


def trunk(word):
    """A word with its branches left out."""
    text = list(word)
    while "]" in text:
        end = text.index("]")
        begin = max([index for index in range(end) if text[index] == "["])
        text[begin:end + 1] = []
    return tuple(text)


def step(x, y, heading):
    return {0: (x + 1, y), 1: (x, y + 1), 2: (x - 1, y), 3: (x, y - 1)}[heading]


def plain_twice(strokes):
    """The pair with the smallest j, and for it the smallest i, tried one by one."""
    for j, second in enumerate(strokes):
        for i, first in enumerate(strokes[:j]):
            if sides(first) == sides(second):
                return (i, j)
    return None


def sides(stroke):
    return {stroke[:2], step(*stroke[:3])}


def end(stroke):
    return step(*stroke[:3])


def times(place, other):
    """The product of two places as complex numbers."""
    (x, y), (u, v) = place, other
    return x * u - y * v, x * v + y * u


def turned(place, quarters):
    return times(place, ((1, 0), (0, 1), (-1, 0), (0, -1))[quarters % 4])


def moved(strokes, place, heading):
    """Strokes drawn from a place with a heading instead of from (0, 0) with 0."""
    found = []
    for x, y, own, letter in strokes:
        across, up = turned((x, y), heading)
        found.append((place[0] + across, place[1] + up, (own + heading) % 4, letter))
    return found


def plain_pair(first, second):
    x, y = turned((second[0] - first[0], second[1] - first[1]), -first[2])
    return (x, y, first[3], (second[2] - first[2]) % 4, second[3])


def plain_multiple(book):
    """Where the words of all letters that come end; they must be one place."""
    [pen] = {plain_walk(book[0][letter])[1] for letter, _ in first_ages(book)}
    assert pen[2] == 0
    return pen[:2]


def plain_farness(words, letters, norm):
    """The farness by its words: reach, its root, and the least number."""
    ends = [end(stroke) for letter in letters for stroke in plain_strokes(words[letter])]
    reach = max([x * x + y * y for x, y in ends])
    root = 0
    while root * root < reach:
        root += 1
    far = 2
    while not norm * far * far > (far + 2 * root) * (far + 2 * root):
        far += 1
    return far


def book_farness(book):
    u, v = plain_multiple(book)
    return plain_farness(book[0], [letter for letter, _ in first_ages(book)], u * u + v * v)


def near_pairs(strokes, far):
    return {plain_pair(first, second) for j, second in enumerate(strokes) for first in strokes[:j]
            if (first[0] - second[0]) ** 2 + (first[1] - second[1]) ** 2 <= far * far}


def even_shapes(most):
    """All words of one letter, of so many parts at most, that end with heading 0, by where they end."""
    shapes = {}

    def add(word, depth):
        if depth == 0 and 0 in word:
            x, y, heading = plain_walk(word)[1]
            if heading == 0 and x * x + y * y >= 2:
                shapes.setdefault((x, y), []).append(word)
        if len(word) < most:
            for part in (0, "+", "-", "["):
                add(word + (part,), depth + (part == "["))
            if depth:
                add(word + ("]",), depth - 1)

    add((), 0)
    return shapes


def even_books(number, seed=11, most=6):
    """Even books of 1 to 3 letters, with branches now and then, and multiples of all directions."""
    source = random.Random(seed)
    shapes = even_shapes(most)
    starts = [word for words in shapes.values() for word in words]
    books = []
    for _ in range(number):
        many = source.randint(1, 3)
        picked = [source.choice(shapes[source.choice(sorted(shapes))])]
        place = plain_walk(picked[0])[1][:2]
        picked += [source.choice(shapes[place]) for _ in range(many - 1)] + [source.choice(starts)]
        named = [tuple([part if part else source.randrange(many) for part in word]) for word in picked]
        books.append((tuple(named[:-1]), named[-1]))
    return books


def drawable(book, most):
    """The strokes of each age, as long as there are no more than so many."""
    words, word = book
    while True:
        strokes = plain_strokes(word)
        if len(strokes) > most:
            return
        yield strokes
        word = plain_word((words, word), 1)


def long_books():
    """Even books of several letters with words of 40 parts, that go their way by many turns."""
    source = random.Random(14)
    books = []
    for many, place in ((2, (4, 2)), (3, (3, 1)), (8, (7, 5)), (8, (8, 8))):
        words = []
        while len(words) < many:
            word = [source.choice((0, 0, "+", "-")) for _ in range(40)]
            if plain_walk(word)[1] == (*place, 0):
                words.append(tuple([source.randrange(many) if part == 0 else part for part in word]))
        books.append((tuple(words), words[0]))
    return books


def broad_book():
    """A book of 8 letters and words of 40 parts, for times."""
    source = random.Random(3)
    parts = (0, 1, 2, 3, 4, 5, 6, 7, 0, 1, 2, 3, "+", "-", "+", "[")
    words = []
    for _ in range(8):
        word = [source.choice(parts) for _ in range(30)]
        words.append(tuple(word + ["]"] * word.count("[") + [0] * (10 - word.count("["))))
    return (tuple(words), words[0])


# Words that go far back or aside ahead of going their way.
FAR_BACK = ((("+", "+") + (0,) * 10 + ("+", "+") + (0,) * 12,), (0,))
FAR_ASIDE = (((0, "[", "-", 0, 0, 0, 0, 0, 0, 0, "]", 0), ("[", "+", 1, 1, 1, "]", 0, 1)), (0, "+", 1))

# More than 20000 pairs may be near, but not so many are.
MANY_LETTERS = (tuple([(letter, (letter + 1) % 8) for letter in range(8)]), (0, "+", 0))

STRAIGHT = (tuple([tuple([(letter + index) % 8 for index in range(40)]) for letter in range(8)]),
            tuple(range(8)) * 5)
