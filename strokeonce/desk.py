"""A desk that answers lines about a book."""

from strokeonce.ages import area_at, end_at, stroke, strokes_in, turns_at
from strokeonce.checks import check_book
from strokeonce.errors import NotText, StrokeError, Unasked
from strokeonce.evens import multiple
from strokeonce.finds import first_meeting, first_twice
from strokeonce.notation import read_book, write_book
from strokeonce.windows import box, window

FIGURES = "0123456789"
MOST_FIGURES = 400
MOST_LINES = 1000
NOTHING = "none"
REFUSED = "refused"


def number_of_word(word):
    """The number that a word tells in plain figures, None for another word."""
    figures = word[1:] if word.startswith("-") else word
    if not 1 <= len(figures) <= MOST_FIGURES or not all([sign in FIGURES for sign in figures]):
        return None
    # No 0 ahead of other figures, and none behind a sign.
    if figures.startswith("0") and word != "0":
        return None
    return int(word)


def parted(numbers):
    return " ".join([str(number) for number in numbers])


def parted_or_nothing(numbers):
    return NOTHING if numbers is None else parted(numbers)


def answer_strokes(book, numbers):
    return str(strokes_in(book, numbers[0]))


def answer_turns(book, numbers):
    return str(turns_at(book, numbers[0]))


def answer_area(book, numbers):
    return str(area_at(book, numbers[0]))


def answer_end(book, numbers):
    return parted(end_at(book, numbers[0]))


def answer_box(book, numbers):
    return parted(box(book, numbers[0]))


def answer_stroke(book, numbers):
    age, number = numbers
    return parted(stroke(book, age, number))


def answer_window(book, numbers):
    age, left, low, right, high = numbers
    rows = window(book, age, (left, low), (right, high))
    return ", ".join([parted(row) for row in rows]) if rows else NOTHING


def answer_multiple(book, _):
    return parted_or_nothing(multiple(book))


def answer_twice(book, _):
    return parted_or_nothing(first_twice(book))


def answer_meets(book, _):
    return parted_or_nothing(first_meeting(book))


def answer_book(book, _):
    return write_book(book).replace("\n", " / ")


# By the first word of a line how it is answered, and how many numbers follow it.
ANSWERS = {
    "strokes": answer_strokes, "turns": answer_turns, "area": answer_area, "end": answer_end, "box": answer_box,
    "stroke": answer_stroke, "window": answer_window, "multiple": answer_multiple, "twice": answer_twice,
    "meets": answer_meets, "book": answer_book,
}
NUMBERS = {
    "strokes": 1, "turns": 1, "area": 1, "end": 1, "box": 1, "stroke": 2, "window": 5, "multiple": 0, "twice": 0,
    "meets": 0, "book": 0,
}


class Desk:
    """Answers lines about one book."""

    def __init__(self, book):
        check_book(book)
        self.book = book

    def ask(self, line):
        """The answer to a line."""
        if not isinstance(line, str):
            raise NotText("a line must be a string")
        words = line.split(" ")
        head = words[0]
        if head not in ANSWERS or len(words) != NUMBERS[head] + 1:
            raise Unasked("no line that is answered")
        numbers = [number_of_word(word) for word in words[1:]]
        if None in numbers:
            raise Unasked("a number that is not in plain figures")
        answer = ANSWERS[head]
        return answer(self.book, numbers)


def check_lines(value):
    if not isinstance(value, tuple) or len(value) > MOST_LINES:
        raise NotText("lines must be a tuple that is not too long")
    if not all([isinstance(line, str) for line in value]):
        raise NotText("each line must be a string")


def answer_or_refusal(desk, line):
    try:
        return desk.ask(line)
    except StrokeError:
        return REFUSED


def run(text, lines):
    """The answers of a desk about the book of a text, with a refusal for each line that raises an error."""
    book = read_book(text)
    check_lines(lines)
    desk = Desk(book)
    # A line that comes again has the same answer.
    answers = {}
    for line in lines:
        if line not in answers:
            answers[line] = answer_or_refusal(desk, line)
    return tuple([answers[line] for line in lines])
