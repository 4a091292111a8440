"""Circles around the points at which visits come from one visit: they tell which vectors lead too far away.

A circle is told by how many points there are, by their sum, and by the greatest norm of one of them that is taken so
many times, less the sum: so each point is at most so far from the mean of all.
"""

from math import isqrt

from grownlines.base.points import norm_in, times, turned_by


def circle_of(grid, points):
    """The circle around some points."""
    many = len(points)
    x = sum([point[0] for point in points])
    y = sum([point[1] for point in points])
    norm = max([norm_in(grid, (many * point[0] - x, many * point[1] - y)) for point in points])
    return (many, (x, y), norm)


def _twice_dot(grid, one, other):
    """What the norm of the sum of two points has more than both norms."""
    return (2 * one[0] * other[0] + grid.slant * (one[0] * other[1] + one[1] * other[0]) + 2 * one[1] * other[1])


def bounds_of(grid, growth, reach, circle, other, turn):
    """What tells that a vector is so great that all that comes from its both ends is farther away than the reach.

    The circles are those of both ends, and the other one is turned. The bounds are four integers: nothing is near if
    the norm of the product of the vector with the growth, taken so many times as the first one tells, plus the parts
    of the vector, times the next two, is above the last one.
    """
    few, mean, norm = circle
    many, middle, most = other
    # All is taken so often that both means are points of the grid. Roots are rounded up.
    often = few * many
    far = often * reach + isqrt(many * many * norm) + isqrt(few * few * most) + 2
    x, y = turned_by(grid, middle, turn)
    center = (few * x - many * mean[0], few * y - many * mean[1])
    right = _twice_dot(grid, growth, center)
    up = _twice_dot(grid, times(grid, (0, 1), growth), center)
    return (often, right, up, (far * far - norm_in(grid, center)) // often)
