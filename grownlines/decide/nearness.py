"""The vectors of stands that are not far, in their order, and as integers that are quick to add.

Such a vector has a place: its index among all of them, ascending. Wherever points are added, they are told by one
integer each: the first part times a great side, plus the second part.
"""

from math import isqrt

from grownlines.base.points import norm_in, times, turned_by
from grownlines.decide.stands import greatest_start, reach


def _near_points(grid, bound):
    """The ascending list of the points with at most this norm."""
    # Four times a norm is the square of twice the second part, to which the first part is added in the triangle grid,
    # and so many squares of the first part.
    squares = 4 - grid.slant
    points = []
    width = isqrt(4 * bound // squares)
    for x in range(-width, width + 1):
        half = isqrt(4 * bound - squares * x * x)
        shift = grid.slant * x
        points.extend([(x, y) for y in range(-((half + shift) // 2), (half - shift) // 2 + 1)])
    return points


class Nearness:
    """The vectors of a scheme that are not far, and where they lead if they are multiplied by the growth."""

    def __init__(self, scheme):
        grid = scheme.grid
        own_reach = reach(scheme)
        # The parts of a vector that is not far are less than 6 / 5 of the reach, in both grids.
        width = own_reach + own_reach // 5 + 1
        growth = scheme.growth
        # Wide enough for each point that is looked up: what comes with a near vector is at most twelve steps away.
        side = 6 * width * (abs(growth[0]) + abs(growth[1])) + 100
        self.grid = grid
        self.reach = own_reach
        self.growth = growth
        self.bound = own_reach * own_reach
        self.side = side
        self.points = _near_points(grid, self.bound)
        self.spots = {point: place for place, point in enumerate(self.points)}
        self.places = {x * side + y: place for place, (x, y) in enumerate(self.points)}
        self.bases = self._bases(scheme)
        self._turned = {0: self.places}
        self._landings = {}

    def wide(self, point):
        """A point as an integer: sums of points are sums of these."""
        return point[0] * self.side + point[1]

    def is_near(self, vector):
        """Whether a stand with this vector is not far."""
        return norm_in(self.grid, vector) <= self.bound

    def _bases(self, scheme):
        """For each vector its product with the growth, as an integer; a far point if nothing near comes from there."""
        grid = self.grid
        right = self.wide(scheme.growth)
        up = self.wide(times(grid, (0, 1), scheme.growth))
        slant = grid.slant
        # What comes is less far than the sum of the reach and of twice the root of the greatest norm of a start.
        start = greatest_start(scheme)
        bound = (self.bound + 4 * start + isqrt(16 * self.bound * start)) // norm_in(grid, scheme.growth)
        far = self.side * self.side
        return [x * right + y * up if x * x + slant * x * y + y * y <= bound else far for x, y in self.points]

    def low_places(self):
        """For each vector whether a near point can come from there."""
        far = self.side * self.side
        return [base < far for base in self.bases]

    def shapes(self):
        """For each vector its parts, the norm of its product with the growth, and this product as an integer."""
        norm = norm_in(self.grid, self.growth)
        slant = self.grid.slant
        return [(x, y, norm * (x * x + slant * x * y + y * y), base) for (x, y), base in zip(self.points, self.bases)]

    def axes(self, turn):
        """The points (1, 0) and (0, 1), turned, as integers."""
        return (self.wide(turned_by(self.grid, (1, 0), turn)), self.wide(turned_by(self.grid, (0, 1), turn)))

    def turned(self, turn):
        """The dict from all near points, as integers, to the places of these points turned backward."""
        if turn not in self._turned:
            places = self.places
            right, up = self.axes(-turn)
            self._turned[turn] = {wide: places[x * right + y * up] for wide, (x, y) in zip(places, self.points)}
        return self._turned[turn]

    def landings(self, more, turn):
        """For each vector the place of the point to which it leads, if this is added and all is turned backward.

        It is None if the point is not near.
        """
        if (more, turn) not in self._landings:
            near = self.turned(turn)
            self._landings[(more, turn)] = [near.get(base + more) for base in self.bases]
        return self._landings[(more, turn)]
