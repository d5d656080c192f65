"""The errors that the package raises, one for each kind of failure."""


class StrokeError(ValueError):
    """The head of all errors of the package."""


class BadBook(StrokeError):
    """A value that is no book; letter is the first one whose word is none, else None."""

    def __init__(self, letter):
        super().__init__(f"no book (letter: {letter})")
        self.letter = letter


class BadNumber(StrokeError):
    """A value that is not an integer within the limits."""


class BadPlace(StrokeError):
    """A value that is not a pair of integers within the limits."""


class BadWord(StrokeError):
    """A value that is no word of a book's letters."""


class NotEven(StrokeError):
    """A book that is not even, or whose multiple is too small."""


class NotSteady(StrokeError):
    """A book that is not steady."""


class NotText(StrokeError):
    """A value that is not a text, or no tuple of lines."""


class BadLine(StrokeError):
    """A line of a text that tells no book; line and word are counted from 1."""

    def __init__(self, line, word):
        super().__init__(f"line {line}, word {word}")
        self.line = line
        self.word = word


class Unasked(StrokeError):
    """A line that a desk does not answer."""


class Branching(StrokeError):
    """A word that has a branch where none may be."""


class TooMany(StrokeError):
    """More than the limit allows; most is the limit."""

    def __init__(self, most):
        super().__init__(f"more than {most}")
        self.most = most
