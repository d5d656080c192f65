"""The words of the ages, and the strokes that a pen draws for them."""

from strokeonce.books import letters_in, next_letters
from strokeonce.checks import check_book_and_age
from strokeonce.errors import TooMany
from strokeonce.paths import end_of_stroke, lay_strokes

MOST_GROWN = 60000


def count_letters(word, many):
    return [word.count(letter) for letter in range(many)]


def next_counts(counts, table):
    """How often each letter stands at the next age; the table has a row of counts for each word."""
    after = [0] * len(counts)
    for count, row in zip(counts, table):
        for letter, each in enumerate(row):
            after[letter] += count * each
    return after


def check_size(words, start, age):
    """Raise TooMany if the word of an age has more parts than may be written out.

    A letter's word has a letter itself, so that no word is shorter than the
    one ahead of it, and the last one is the longest.
    """
    many = len(words)
    table = [count_letters(word, many) for word in words]
    counts = count_letters(start, many)
    size = len(start)
    for _ in range(age):
        size += sum([count * (len(word) - 1) for count, word in zip(counts, words)])
        if size > MOST_GROWN:
            raise TooMany(MOST_GROWN)
        counts = next_counts(counts, table)


def letters_by_age(words, start, age):
    """For each age from 0 to the told one the letters that stand in its word."""
    rows = [letters_in(start)]
    for _ in range(age):
        rows.append(next_letters(words, rows[-1]))
    return rows


def replace_letters(word, grown):
    """A word with each letter become what a table has for it."""
    parts = []
    for part in word:
        if isinstance(part, str):
            parts.append(part)
        else:
            parts.extend(grown[part])
    return tuple(parts)


def word_at(book, age):
    """The word of an age."""
    check_book_and_age(book, age)
    words, start = book
    check_size(words, start, age)
    # From the last age back to the first: what a letter grows to is put
    # together once for all of its places, so that a thousand ages of a long
    # word that hardly grows are soon done.
    rows = letters_by_age(words, start, age)
    grown = {letter: (letter,) for letter in rows[age]}
    for letters in reversed(rows[:age]):
        grown = {letter: replace_letters(words[letter], grown) for letter in letters}
    return replace_letters(start, grown)


def draw(word):
    """The strokes that a pen draws for a word, from (0, 0) with the heading 0."""
    strokes, _ = lay_strokes(word)
    return tuple(strokes)


def drawing(book, age):
    """The strokes of an age, in order."""
    return draw(word_at(book, age))


def ends_of(stroke):
    """The two places between which a stroke lies, in one order for both ways."""
    begin = stroke[:2]
    end = end_of_stroke(stroke)
    return min(begin, end), max(begin, end)


def drawn_twice(book, age):
    """The numbers of the first stroke that draws the same as one ahead of it, and of that one."""
    numbers = {}
    for number, stroke in enumerate(drawing(book, age)):
        ends = ends_of(stroke)
        if ends in numbers:
            return numbers[ends], number
        numbers[ends] = number
    return None
