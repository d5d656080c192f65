"""What a drawing comes to at ages at which it could never be drawn."""

from strokeonce.books import coming_letters
from strokeonce.checks import check_book_and_age, check_number
from strokeonce.growth import ends_by_age, strokes_by_age, strokes_of
from strokeonce.paths import STROKE, lay, rotate
from strokeonce.pens import count_letters, next_counts

# The sum of the strokes and the area of a single stroke.
STROKE_SUMS = (1, 0, 0)


def strokes_in(book, age):
    """How many strokes an age has."""
    check_book_and_age(book, age)
    words, start = book
    strokes = strokes_by_age(words, coming_letters(words, start), age)
    return strokes_of(start, strokes[age])


def end_at(book, age):
    """(x, y, heading) where the pen ends."""
    check_book_and_age(book, age)
    words, start = book
    ends = ends_by_age(words, coming_letters(words, start), age)
    return lay(start, ends[age])[1]


def outside_branches(word):
    """The parts of a word that stand in no branch."""
    depth = 0
    parts = []
    for part in word:
        if part == "[":
            depth += 1
        elif part == "]":
            depth -= 1
        elif depth == 0:
            parts.append(part)
    return parts


def turns_at(book, age):
    """How many quarters to the left the pen has turned in all, outside of branches."""
    check_book_and_age(book, age)
    words, start = book
    many = len(words)
    trunks = [outside_branches(word) for word in words]
    turns = [trunk.count("+") - trunk.count("-") for trunk in trunks]
    table = [count_letters(trunk, many) for trunk in trunks]
    trunk = outside_branches(start)
    counts = count_letters(trunk, many)
    total = trunk.count("+") - trunk.count("-")
    for _ in range(age):
        # Turns stay once they are there: each age only adds those of its letters' words.
        total += sum([count * each for count, each in zip(counts, turns)])
        counts = next_counts(counts, table)
    return total


def sums_of(word, ends, sums):
    """The sum of the strokes of a word's path, as x and y, and its area.

    ends and sums tell for each letter where its path ends, and these three. A
    path that begins at p, not at (0, 0), has p x s more area, for s the sum of
    its strokes: x1 * y2 - x2 * y1 stays the same under turns. The beginnings,
    as seen by the paths, are added up ahead of multiplying, as long products
    are what takes time.
    """
    right = 0
    up = 0
    area = 0
    begins = {letter: (0, 0) for letter in ends}
    for x, y, heading, letter in lay(word, ends)[0]:
        own_x, own_y, own_area = sums[letter]
        turned_x, turned_y = rotate(own_x, own_y, heading)
        right += turned_x
        up += turned_y
        area += own_area
        seen_x, seen_y = rotate(x, y, -heading % 4)
        begin_x, begin_y = begins[letter]
        begins[letter] = (begin_x + seen_x, begin_y + seen_y)
    for letter, (x, y) in begins.items():
        own_x, own_y, _ = sums[letter]
        area += x * own_y - y * own_x
    return right, up, area


def area_at(book, age):
    """The sum, over all strokes in order, of x1 * y2 - x2 * y1."""
    check_book_and_age(book, age)
    words, start = book
    letters = coming_letters(words, start)
    ends = {letter: STROKE for letter in letters}
    sums = {letter: STROKE_SUMS for letter in letters}
    for _ in range(age):
        sums = {letter: sums_of(words[letter], ends, sums) for letter in letters}
        ends = {letter: lay(words[letter], ends)[1] for letter in letters}
    return sums_of(start, ends, sums)[2]


def stroke(book, age, number):
    """The stroke of a number, as (x, y, heading, letter)."""
    check_book_and_age(book, age)
    words, start = book
    letters = coming_letters(words, start)
    strokes = strokes_by_age(words, letters, age)
    check_number(number, 0, strokes_of(start, strokes[age]) - 1)
    ends = ends_by_age(words, letters, age)
    word = start
    pen = (0, 0, 0)
    left = number
    for level in range(age, -1, -1):
        # Of the word's letters the one whose path has the stroke.
        for x, y, heading, letter in lay(word, ends[level], pen)[0]:
            many = strokes[level][letter]
            if left < many:
                break
            left -= many
        word = words[letter]
        pen = (x, y, heading)
    return x, y, heading, letter
