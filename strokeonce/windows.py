"""How far a drawing goes, and what of it lies in a window."""

from strokeonce.books import coming_letters
from strokeonce.checks import check_book_and_age, check_place
from strokeonce.errors import TooMany
from strokeonce.growth import box_of, boxes_by_age, ends_by_age, move_box, strokes_by_age
from strokeonce.paths import lay

MOST_AGE_SEEN = 400
MOST_STROKES = 2000
MOST_LOOKS = 100000


def box(book, age):
    """(least x, least y, greatest x, greatest y) of all places that the pen comes to."""
    check_book_and_age(book, age, MOST_AGE_SEEN)
    words, start = book
    letters = coming_letters(words, start)
    ends = ends_by_age(words, letters, age)
    boxes = boxes_by_age(words, letters, ends)
    return box_of(start, ends[age], boxes[age])


class Seeker:
    """Looks for the strokes of ages, to the told one, that begin or end in a window.

    A part of the drawing is an age still to go, the number of its first stroke,
    and where its letter's path begins: (x, y, heading, letter).
    """

    def __init__(self, book, age):
        self.words, self.start = book
        letters = coming_letters(self.words, self.start)
        self.strokes = strokes_by_age(self.words, letters, age)
        self.ends = ends_by_age(self.words, letters, age)
        self.boxes = boxes_by_age(self.words, letters, self.ends)

    def parts(self, word, level, number, pen):
        """The parts of a word whose letters have an age to go, the last one first."""
        found = []
        for path in lay(word, self.ends[level], pen)[0]:
            found.append((level, number, path))
            number += self.strokes[level][path[3]]
        found.reverse()
        return found

    def reaches(self, level, path, corner, end):
        """Whether the box of a part has a place in a window."""
        x, y, heading, letter = path
        left, low, right, high = move_box(self.boxes[level][letter], x, y, heading)
        return left <= end[0] and right >= corner[0] and low <= end[1] and high >= corner[1]

    def seek(self, age, corner, end):
        """(number, x, y, heading, letter) for the strokes of an age in a window, in order."""
        found = []
        if corner[0] > end[0] or corner[1] > end[1]:
            return found
        waiting = self.parts(self.start, age, 0, (0, 0, 0))
        looks = 0
        while waiting:
            level, number, path = waiting.pop()
            looks += 1
            if looks > MOST_LOOKS:
                raise TooMany(MOST_LOOKS)
            if not self.reaches(level, path, corner, end):
                continue
            # The only places of a single stroke's box are its two ends.
            if level == 0:
                found.append((number, *path))
            else:
                waiting.extend(self.parts(self.words[path[3]], level - 1, number, path[:3]))
        return found


def check_many(found):
    # Only behind the whole search: more than the looks allow is told instead.
    if len(found) > MOST_STROKES:
        raise TooMany(MOST_STROKES)


def window(book, age, corner, end):
    """(number, x, y, heading, letter) for the strokes that begin or end in a window, in order."""
    check_book_and_age(book, age, MOST_AGE_SEEN)
    check_place(corner)
    check_place(end)
    found = Seeker(book, age).seek(age, corner, end)
    check_many(found)
    return tuple(found)


def strokes_at(book, age, place):
    """The numbers of the strokes that begin at a place, ascending."""
    check_book_and_age(book, age, MOST_AGE_SEEN)
    check_place(place)
    rows = Seeker(book, age).seek(age, place, place)
    found = [row[0] for row in rows if row[1:3] == place]
    check_many(found)
    return tuple(found)
