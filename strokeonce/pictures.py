"""Pictures of windows, and which strokes and ages come to a place."""

from strokeonce.ages import stroke
from strokeonce.checks import check_book, check_book_and_age, check_number, check_place
from strokeonce.errors import TooMany
from strokeonce.pens import ends_of
from strokeonce.windows import MOST_AGE_SEEN, Seeker, check_many, window

# As many places may stand beside one another in a picture, and above one another.
MOST_PLACES = 60


def check_picture(book, age, corner, end):
    check_book_and_age(book, age, MOST_AGE_SEEN)
    check_place(corner)
    check_place(end)
    if end[0] - corner[0] >= MOST_PLACES or end[1] - corner[1] >= MOST_PLACES:
        raise TooMany(MOST_PLACES)


def between(signs, gaps):
    """A line of signs with a gap between each two of them; the gap ahead of the first one is left out."""
    return "".join([gap + sign for gap, sign in zip(gaps, signs)])[1:]


def line_of_places(columns, y, places, sides):
    """The line for the places of one y, with the strokes that lie between them."""
    signs = ["o" if (x, y) in places else "." for x in columns]
    return between(signs, ["-" if ((x - 1, y), (x, y)) in sides else " " for x in columns])


def line_below(columns, y, sides):
    """The line below that of one y, with the strokes that go down to the next places."""
    signs = ["|" if ((x, y - 1), (x, y)) in sides else " " for x in columns]
    return between(signs, [" " for _ in columns])


def picture(book, age, corner, end):
    """A picture of the strokes that begin or end in a window, the greatest y first."""
    check_picture(book, age, corner, end)
    strokes = [row[1:] for row in window(book, age, corner, end)]
    sides = {ends_of(each): True for each in strokes}
    places = {place: True for side in sides for place in side}
    columns = list(range(corner[0], end[0] + 1))
    lines = []
    for y in range(end[1], corner[1] - 1, -1):
        lines.append(line_of_places(columns, y, places, sides))
        if y > corner[1]:
            lines.append(line_below(columns, y, sides))
    return "\n".join(lines) if columns else ""


def touching(book, age, number):
    """The numbers of the other strokes of an age that have a place in common with one, ascending."""
    check_book_and_age(book, age, MOST_AGE_SEEN)
    own = stroke(book, age, number)
    # The two places of a stroke are a window by themselves.
    corner, end = ends_of(own)
    rows = Seeker(book, age).seek(age, corner, end)
    found = [row[0] for row in rows if row[0] != number]
    check_many(found)
    return tuple(found)


def first_coming(book, place, most):
    """The first age, at most most, at which a stroke begins or ends at a place, None if there is none."""
    check_book(book)
    check_place(place)
    check_number(most, 0, MOST_AGE_SEEN)
    seeker = Seeker(book, most)
    for age in range(most + 1):
        found = seeker.seek(age, place, place)
        check_many(found)
        if found:
            return age
    return None
