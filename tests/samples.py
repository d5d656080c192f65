"""Values and plain reckonings that several tests share."""

import random

DRAGON = (((0, "+", 1, "-"), ("+", 0, "-", 1)), (0,))
LEVY = (((0, "+", 0, "-"),), (0,))
PLANT = (((0, "[", "+", 0, "]", 0),), (0,))

# Each is a value of a kind that may be passed for any argument, and no book.
OTHER_VALUES = (
    0, 1, -1, 10 ** 5000, "", "+", "start a", True, False, None,
    (), (0,), (((0,),),), (((0,),), (0,), (0,)),
    [], [((0,),), (0,)], {}, {0: (0,)}, {"words": ((0,),), "start": (0,)},
)


def chain(many):
    """A book in which each letter becomes the next one, and the last one itself."""
    words = tuple([(min(letter + 1, many - 1),) for letter in range(many)])
    return (words, (0,))


def random_word(source, many, most):
    """A word of at least one letter, with branches in one another now and then."""
    parts = []
    depth = 0
    for _ in range(source.randrange(most)):
        pick = source.randrange(8)
        if pick < 3:
            parts.append(source.randrange(many))
        elif pick < 6:
            parts.append("+-"[pick % 2])
        elif pick == 6:
            parts.append("[")
            depth += 1
        elif depth:
            parts.append("]")
            depth -= 1
    parts.append(source.randrange(many))
    return tuple(parts + ["]"] * depth)


def random_books(number, seed=7):
    source = random.Random(seed)
    books = []
    for _ in range(number):
        many = source.randint(1, 8)
        words = tuple([random_word(source, many, 6) for _ in range(many)])
        books.append((words, random_word(source, many, 6)))
    return books


def plain_word(book, age):
    """The word of an age, grown part by part."""
    words, word = book
    for _ in range(age):
        word = sum([words[part] if isinstance(part, int) else (part,) for part in word], ())
    return word


def plain_strokes(word):
    """The strokes of a word, each branch drawn by a call of its own."""
    strokes = []

    def draw(index, x, y, heading):
        while index < len(word) and word[index] != "]":
            part = word[index]
            if part == "[":
                index = draw(index + 1, x, y, heading)
            elif part in ("+", "-"):
                heading = (heading + (1 if part == "+" else 3)) % 4
            else:
                strokes.append((x, y, heading, part))
                x, y = step(x, y, heading)
            index += 1
        return index

    draw(0, 0, 0, 0)
    return tuple(strokes)


def step(x, y, heading):
    return {0: (x + 1, y), 1: (x, y + 1), 2: (x - 1, y), 3: (x, y - 1)}[heading]


def plain_twice(strokes):
    """The pair with the smallest j, and for it the smallest i, tried one by one."""
    for j, second in enumerate(strokes):
        for i, first in enumerate(strokes[:j]):
            if sides(first) == sides(second):
                return (i, j)
    return None


def sides(stroke):
    return {stroke[:2], step(*stroke[:3])}
