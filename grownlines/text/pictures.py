"""Pictures of lines on the square grid, drawn with signs."""

from grownlines.errors import InvalidOperation, ParseError, TooMany
from grownlines.lines.grown import check_order, check_scheme, length_of
from grownlines.lines.pens import Pen

MAX_DRAWN = 400

# A sign is told by one integer: its row, counted downward, times this width, plus its column. Points stand at twice
# their parts, so that there is space for the edges between them, and all columns are less than half the width away.
_WIDTH = 5 * MAX_DRAWN

# How far a sign is from the one before it, and what sign an edge has, by the direction of the step.
_MOVES = (1, -_WIDTH, -1, _WIDTH)
_EDGES = ("-", "|", "-", "|")


def _signs_along(line):
    """The dict from the places of all signs of a line to these signs, and the column that is farthest left."""
    place = 0
    left = 0
    signs = {place: "+"}
    for step in line:
        direction = step % len(_MOVES)
        move = _MOVES[direction]
        signs[place + move] = _EDGES[direction]
        place = place + 2 * move
        signs[place] = "+"
        if direction == 2:
            left = min(left, (place + _WIDTH // 2) % _WIDTH - _WIDTH // 2)
    return (signs, left)


def _drawn(signs, left):
    """The rows of signs, which are told by their places, from this column on."""
    places = sorted(list(signs))
    start = (places[0] - left) // _WIDTH * _WIDTH + left
    rows = []
    row = ""
    for place in places:
        while place >= start + _WIDTH:
            rows.append(row)
            row = ""
            start = start + _WIDTH
        row = row.ljust(place - start) + signs[place]
    return "\n".join(rows + [row])


def picture(scheme, order):
    """The picture of a line."""
    check_scheme(scheme)
    check_order(order)
    if scheme.grid.name != "square":
        raise InvalidOperation("lines on the square grid have pictures")
    if length_of(scheme, order) > MAX_DRAWN:
        raise TooMany(MAX_DRAWN)
    pen = Pen(scheme)
    signs, left = _signs_along(pen.line_of(order))
    return _drawn(signs, left)


def _signs_in(row, sign):
    """The list of the pairs of the column of each such sign in a row and of what stands ahead of it.

    It is None if one of them does not stand where points do, or if there is anything but blanks and edges.
    """
    gaps = row.split(sign)
    # An edge is all that stands between two signs, and each other sign of a row is a blank.
    if gaps[-1] != "" or len(gaps) - 1 + gaps.count("-") + row.count(" ") != len(row):
        return None
    at = -1
    found = []
    for gap in gaps[:-1]:
        at = at + len(gap) + 1
        if at % 2 == 1:
            return None
        found.append((at // 2, gap))
    return found


def _points_in(rows):
    """The dict from the numbers of points to these, and the list of the numbers of the edges beside them.

    The rows are those of points alone, the lowest one first. The number of a point is its first part times a height,
    which is more than all second parts, plus its second part, and that of an edge is twice that of its lesser point,
    plus 1 if it leads to the right. It is None if a row is wrong.
    """
    height = len(rows)
    points = {}
    edges = []
    for high, row in enumerate(rows):
        found = _signs_in(row, "+")
        if found is None:
            return None
        for at, gap in found:
            number = at * height + high
            points[number] = (at, high)
            if gap == "-":
                edges.append(2 * (number - height) + 1)
    return (points, edges)


def _edges_in(rows, points):
    """The list of the numbers of the edges that lead upward, from the rows of these; None if one of them is wrong."""
    height = len(rows) + 1
    edges = []
    for low, row in enumerate(rows):
        found = _signs_in(row, "|")
        if found is None or "-" in row:
            return None
        for at, _ in found:
            number = at * height + low
            if number not in points or number + 1 not in points:
                return None
            edges.append(2 * number)
    return edges


def _read(text):
    """The ascending tuples of the points and of the edges of a text, None if it is no picture."""
    rows = text.split("\n")[::-1]
    found = _points_in(rows[::2])
    if found is None or len(rows) % 2 == 0 or rows[0] == "" or rows[-1] == "":
        return None
    points, beside = found
    upward = _edges_in(rows[1::2], points)
    height = len(rows) // 2 + 1
    if upward is None or min(list(points)) >= height:
        return None
    ends = (1, height)
    return (tuple([points[number] for number in sorted(list(points))]),
            tuple([(points[edge // 2], points[edge // 2 + ends[edge % 2]]) for edge in sorted(beside + upward)]))


def read_picture(text):
    """The ascending tuples of the points and of the edges of a picture."""
    found = _read(text) if isinstance(text, str) else None
    if found is None:
        raise ParseError(None)
    return found
