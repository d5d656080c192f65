"""Books written as text and read from it."""

from strokeonce.checks import MOST_LETTERS, MOST_PARTS, check_book, is_word
from strokeonce.errors import BadLine, NotText

LETTERS = "abcdefgh"
SIGNS = "+-[]"

# The first words of the lines, in order.
HEADS = ("start", "a", "b", "c", "d", "e", "f", "g", "h")


def text_of_word(word):
    return "".join([part if isinstance(part, str) else LETTERS[part] for part in word])


def write_book(book):
    """The text of a book: a line for start and one for each letter."""
    check_book(book)
    words, start = book
    return "\n".join([f"{head} {text_of_word(word)}" for head, word in zip(HEADS, (start,) + words)])


def word_of_text(text):
    """The word of the letters a to h that a text tells, None for none."""
    if len(text) > MOST_PARTS or not all([sign in LETTERS + SIGNS for sign in text]):
        return None
    word = tuple([sign if sign in SIGNS else LETTERS.index(sign) for sign in text])
    return word if is_word(word, MOST_LETTERS) else None


def words_of_line(line):
    """The words of a line, whatever number of spaces is between them."""
    return [word for word in line.split(" ") if word]


def read_line(words, line, heads):
    """The word that a line tells; heads has its first word, if it may be there at all."""
    if words[0] not in heads:
        raise BadLine(line, 1)
    word = word_of_text(words[1]) if len(words) > 1 else None
    if word is None:
        raise BadLine(line, 2)
    if len(words) > 2:
        raise BadLine(line, 3)
    return word


def read_book(text):
    """The book that a text tells; void lines are passed over, but counted."""
    if not isinstance(text, str):
        raise NotText("a book's text must be a string")
    lines = text.split("\n")
    told = []
    for line, content in enumerate(lines, start=1):
        words = words_of_line(content)
        if words:
            many = len(told)
            told.append((line, read_line(words, line, HEADS[many:many + 1])))
    if len(told) < 2:
        raise BadLine(len(lines) + 1, 1)
    for line, word in told:
        if not is_word(word, len(told) - 1):
            raise BadLine(line, 2)
    return tuple([word for _, word in told[1:]]), told[0][1]
