"""Pictures of lines on the square grid, drawn with signs."""

from grownlines.base.points import trail
from grownlines.errors import InvalidOperation, ParseError, TooMany
from grownlines.lines.grown import check_order, check_scheme, length_of, steps_of

MAX_DRAWN = 400


def _edge_sign(edge):
    return "-" if edge[0][1] == edge[1][1] else "|"


def _drawn(points, edges):
    """The picture of these points and edges."""
    left = min([x for x, y in points])
    high = max([y for x, y in points])
    low = min([y for x, y in points])
    # A point stands at twice its parts, and an edge at the sum of those of both its ends.
    rows = {row: {} for row in range(2 * low, 2 * high + 1)}
    for x, y in points:
        rows[2 * y][2 * (x - left)] = "+"
    for (x, y), (right, up) in edges:
        rows[y + up][x + right - 2 * left] = _edge_sign(((x, y), (right, up)))
    return "\n".join([_row_text(rows[row]) for row in range(2 * high, 2 * low - 1, -1)])


def _row_text(signs):
    return "".join([signs.get(at, " ") for at in range(max(list(signs), default=-1) + 1)])


def picture(scheme, order):
    """The picture of a line."""
    check_scheme(scheme)
    check_order(order)
    if scheme.grid.name != "square":
        raise InvalidOperation("lines on the square grid have pictures")
    if length_of(scheme, order) > MAX_DRAWN:
        raise TooMany(MAX_DRAWN)
    points = trail(scheme.grid, [direction for letter, direction in steps_of(scheme, order)])
    edges = list({tuple(sorted([one, other])): True for one, other in zip(points, points[1:])})
    return _drawn(points, edges)


def _signs_in(text):
    """The list of the triples of column, row and sign, without blanks, from the first row on downward."""
    rows = text.split("\n")
    return [(at, -number, sign) for number, row in enumerate(rows) for at, sign in enumerate(row) if sign != " "]


def _edge_at(at, row):
    """The ascending pair of the points between which an edge stands at a column and a row."""
    return ((at // 2, row // 2), ((at + 1) // 2, (row + 1) // 2))


def _read(text):
    """The dicts of the points and of the edges of a text, None if they are no picture."""
    points = {}
    edges = {}
    for at, row, sign in _signs_in(text):
        if sign == "+" and at % 2 == 0 and row % 2 == 0:
            points[(at // 2, row // 2)] = True
        elif sign == "-" and at % 2 == 1 and row % 2 == 0 or sign == "|" and at % 2 == 0 and row % 2 == 1:
            edges[_edge_at(at, row)] = True
        else:
            return None
    if not all([point in points for edge in edges for point in edge]):
        return None
    return (points, edges)


def read_picture(text):
    """The ascending tuples of the points and of the edges of a picture."""
    found = _read(text) if isinstance(text, str) else None
    # Where there are a point and no other signs than points and edges, blanks alone can be wrong.
    if found is None or len(found[0]) == 0 or _drawn(list(found[0]), list(found[1])) != text:
        raise ParseError(None)
    points, edges = found
    low = min([y for x, y in points])
    moved = {(x, y): (x, y - low) for x, y in points}
    return (tuple(sorted([moved[point] for point in points])),
            tuple(sorted([(moved[one], moved[other]) for one, other in edges])))
