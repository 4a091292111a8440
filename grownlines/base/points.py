"""Sums and products of points of any size.

Nothing is checked here: points of lines and powers of vectors outgrow the
limit for integers that are passed.
"""


def plus(one, other):
    """The sum of two points."""
    return (one[0] + other[0], one[1] + other[1])


def minus(one, other):
    """The difference of two points."""
    return (one[0] - other[0], one[1] - other[1])


def times(grid, one, other):
    """The product of two points of a grid."""
    low = one[1] * other[1]
    return (one[0] * other[0] - low, one[0] * other[1] + one[1] * other[0] + grid.slant * low)


def norm_in(grid, point):
    """The square of the length of a point."""
    return point[0] * point[0] + grid.slant * point[0] * point[1] + point[1] * point[1]


def flipped(grid, point):
    """The conjugate of a point."""
    return (point[0] + grid.slant * point[1], -point[1])


def turned_by(grid, point, turn):
    """The point, turned by any integer."""
    return times(grid, point, grid.units[turn % len(grid.units)])


def divided(grid, point, divisor):
    """The quotient of two points, None if there is none or the divisor is (0, 0)."""
    norm = norm_in(grid, divisor)
    raw = times(grid, point, flipped(grid, divisor))
    if norm == 0 or raw[0] % norm != 0 or raw[1] % norm != 0:
        return None
    return (raw[0] // norm, raw[1] // norm)


def raised(grid, point, many):
    """The product of so many equal points."""
    if many == 0:
        return (1, 0)
    half = raised(grid, point, many // 2)
    whole = times(grid, half, half)
    return times(grid, whole, point) if many % 2 == 1 else whole


def take_turns(many, ends, others):
    """Whether two pairs of directions, of so many, are four different ones that alternate around a point."""
    width = (ends[1] - ends[0]) % many
    one = (others[0] - ends[0]) % many
    two = (others[1] - ends[0]) % many
    if 0 in (width, one, two) or width in (one, two):
        return False
    return (one < width) != (two < width)


def trail(grid, directions):
    """The list of the points to which unit steps lead from (0, 0), this one included."""
    points = [(0, 0)]
    for direction in directions:
        points.append(plus(points[-1], grid.units[direction]))
    return points


def in_powers(grid, base, digits):
    """The point with these digits to a base: the last one, the one before times the base, and so on."""
    # Neighbours are joined, round by round, so that great points are multiplied a few times only.
    row = digits
    power = base
    while len(row) > 1:
        if len(row) % 2 == 1:
            row = [(0, 0)] + row
        row = [plus(times(grid, row[at], power), row[at + 1]) for at in range(0, len(row), 2)]
        power = times(grid, power, power)
    return row[0]
