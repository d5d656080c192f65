"""What the paths come to that letters become at each age, drawn by themselves.

Each table is a list with a dict for each age from 0 to the told one: for each
of some letters what the path comes to that it has become by then. The letters
are such that none becomes another one than these.
"""

from strokeonce.paths import STROKE, lay, rotate


def strokes_of(word, strokes):
    """How many strokes a word has, each of its letters having as many as a dict tells."""
    return sum([strokes[part] for part in word if not isinstance(part, str)])


def strokes_by_age(words, letters, age):
    rows = [{letter: 1 for letter in letters}]
    for _ in range(age):
        row = rows[-1]
        rows.append({letter: strokes_of(words[letter], row) for letter in letters})
    return rows


def ends_by_age(words, letters, age):
    """Where each path ends, as (x, y, heading)."""
    rows = [{letter: STROKE for letter in letters}]
    for _ in range(age):
        row = rows[-1]
        rows.append({letter: lay(words[letter], row)[1] for letter in letters})
    return rows


def move_box(box, x, y, heading):
    """The box of a path that begins at (x, y) with a heading, from its box by itself."""
    left, low, right, high = box
    near_x, near_y = rotate(left, low, heading)
    far_x, far_y = rotate(right, high, heading)
    return (x + min(near_x, far_x), y + min(near_y, far_y),
            x + max(near_x, far_x), y + max(near_y, far_y))


def box_of(word, ends, boxes):
    """(least x, least y, greatest x, greatest y) of a word's path.

    (0, 0) is among its places, as the path of its first letter begins there.
    """
    laid, _ = lay(word, ends)
    moved = [move_box(boxes[letter], x, y, heading) for x, y, heading, letter in laid]
    return (min([box[0] for box in moved]), min([box[1] for box in moved]),
            max([box[2] for box in moved]), max([box[3] for box in moved]))


def boxes_by_age(words, letters, ends):
    """The box of each path; ends is the table of where the paths end."""
    rows = [{letter: (0, 0, 1, 0) for letter in letters}]
    for row in ends[:-1]:
        boxes = rows[-1]
        rows.append({letter: box_of(words[letter], row, boxes) for letter in letters})
    return rows
