"""Where a pen goes for a word whose letters each stand for a stroke, or for a whole path."""

STEPS = ((1, 0), (0, 1), (-1, 0), (0, -1))

# A path that ends one step ahead, with the heading with which it began.
STROKE = (1, 0, 0)


def rotate(x, y, quarters):
    """The place (x, y) turned about (0, 0) by quarters to the left, 0 to 3 of them."""
    if quarters == 0:
        return x, y
    if quarters == 1:
        return -y, x
    if quarters == 2:
        return -x, -y
    return y, -x


def lay(word, ends, pen=(0, 0, 0)):
    """(x, y, heading, letter) for the path of each letter, where it begins, and the pen at the end.

    ends has for each letter where its path ends, drawn by itself, as (x, y,
    heading); the pen, of this form too, tells where the word begins.
    """
    x, y, heading = pen
    begun = []
    laid = []
    for part in word:
        if part == "+":
            heading = (heading + 1) % 4
        elif part == "-":
            heading = (heading - 1) % 4
        elif part == "[":
            begun.append((x, y, heading))
        elif part == "]":
            x, y, heading = begun.pop()
        else:
            laid.append((x, y, heading, part))
            ahead, aside, turned = ends[part]
            right, up = rotate(ahead, aside, heading)
            x += right
            y += up
            heading = (heading + turned) % 4
    return laid, (x, y, heading)


def lay_strokes(word, pen=(0, 0, 0)):
    """As lay, for letters each of which draws a stroke."""
    ends = {part: STROKE for part in word if not isinstance(part, str)}
    return lay(word, ends, pen)


def end_of_stroke(stroke):
    x, y, heading, _ = stroke
    right, up = STEPS[heading]
    return x + right, y + up
