"""The vectors of stands that are not far, in their order, and as integers that are quick to add.

Such a vector has a place: its index among all of them, ascending. Wherever points are added, they are told by one
integer each: the first part times a great side, plus the second part.
"""

from math import isqrt

from grownlines.base.points import norm_in, times, turned_by
from grownlines.decide.stands import greatest_start, reach


def _near_points(grid, width, bound):
    """The ascending list of the points with at most this norm."""
    parts = list(range(-width, width + 1))
    if grid.slant == 0:
        return [(x, y) for x in parts for y in parts if x * x + y * y <= bound]
    return [(x, y) for x in parts for y in parts if x * x + x * y + y * y <= bound]


class Nearness:
    """The vectors of a scheme that are not far, and where they lead if they are multiplied by the growth."""

    def __init__(self, scheme):
        grid = scheme.grid
        own_reach = reach(scheme)
        # The parts of a vector that is not far are less than 6 / 5 of the reach, in both grids.
        width = own_reach + own_reach // 5 + 1
        growth = scheme.growth
        self.grid = grid
        self.bound = own_reach * own_reach
        # Wide enough for each point that is looked up: what comes with a near vector is at most twelve steps away.
        self.side = 6 * width * (abs(growth[0]) + abs(growth[1])) + 100
        self.points = _near_points(grid, width, self.bound)
        self.spots = {point: place for place, point in enumerate(self.points)}
        self.places = {self.wide(point): place for place, point in enumerate(self.points)}
        self.bases = self._bases(scheme, own_reach)
        self._turned = {}

    def wide(self, point):
        """A point as an integer: sums of points are sums of these."""
        return point[0] * self.side + point[1]

    def is_near(self, vector):
        """Whether a stand with this vector is not far."""
        return norm_in(self.grid, vector) <= self.bound

    def _bases(self, scheme, own_reach):
        """For each vector its product with the growth, as an integer; None if nothing near comes from there."""
        grid = self.grid
        right = self.wide(scheme.growth)
        up = self.wide(times(grid, (0, 1), scheme.growth))
        bound = (own_reach + isqrt(4 * greatest_start(scheme)) + 1) ** 2
        norm = norm_in(grid, scheme.growth)
        norms = [norm * (x * x + grid.slant * x * y + y * y) for x, y in self.points]
        return [x * right + y * up if own <= bound else None for own, (x, y) in zip(norms, self.points)]

    def turned(self, turn):
        """The dict from all near points, as integers, to the places of these points turned backward."""
        if turn not in self._turned:
            places = self.places
            right = self.wide(turned_by(self.grid, (1, 0), -turn))
            up = self.wide(turned_by(self.grid, (0, 1), -turn))
            turned = [x * right + y * up for x, y in self.points]
            self._turned[turn] = {wide: places[own] for wide, own in zip(places, turned)}
        return self._turned[turn]
