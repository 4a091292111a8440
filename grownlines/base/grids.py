"""The two grids, and their points as vectors with operators."""

from grownlines.base.points import divided, flipped, minus, norm_in, plus, raised, take_turns, times, turned_by
from grownlines.base.words import is_integer, is_point, write_integer
from grownlines.errors import InvalidGrid, InvalidNumber, InvalidOperation, InvalidPoint, NoQuotient

GRIDS = ("square", "triangle")

MAX_POWER = 1000

_UNITS = {
    "square": ((1, 0), (0, 1), (-1, 0), (0, -1)),
    "triangle": ((1, 0), (0, 1), (-1, 1), (-1, 0), (0, -1), (1, -1)),
}


def _check_point(point):
    if not is_point(point):
        raise InvalidPoint("a point is a pair of integers")


def _check_number(number):
    if not is_integer(number):
        raise InvalidNumber(number)


class Grid:
    """One of the two grids; `slant` tells the product of (0, 1) by itself: (-1, slant)."""

    def __init__(self, name):
        if name not in GRIDS:
            raise InvalidGrid("a grid is called square or triangle")
        self.name = name
        self.units = _UNITS[name]
        self.half = len(_UNITS[name]) // 2
        self.slant = 1 if name == "triangle" else 0

    def unit(self, direction):
        """The unit of a direction, which can be any integer."""
        _check_number(direction)
        return self.units[direction % len(self.units)]

    def direction_of(self, point):
        """The direction whose unit a point is, None if it is none."""
        _check_point(point)
        return self.units.index(point) if point in self.units else None

    def product(self, one, other):
        """The product of two points."""
        _check_point(one)
        _check_point(other)
        return times(self, one, other)

    def norm_of(self, point):
        """The norm of a point."""
        _check_point(point)
        return norm_in(self, point)

    def conjugate_of(self, point):
        """The point whose product with this one is its norm."""
        _check_point(point)
        return flipped(self, point)

    def turned(self, point, turn):
        """The point, turned by any integer."""
        _check_point(point)
        _check_number(turn)
        return turned_by(self, point, turn)

    def quotient(self, point, divisor):
        """The point whose product with the divisor is this one, None if there is none."""
        _check_point(point)
        _check_point(divisor)
        if divisor == (0, 0):
            raise NoQuotient(divisor)
        return divided(self, point, divisor)

    def alternate(self, ends, others):
        """Whether two pairs of directions are four different ones that alternate around a point."""
        # A pair of integers has the form of a point, whatever it stands for.
        if not is_point(ends) or not is_point(others):
            raise InvalidOperation("two directions are a pair of integers")
        return take_turns(len(self.units), ends, others)

    def __len__(self):
        return len(self.units)

    def __iter__(self):
        return iter(self.units)

    def __eq__(self, other):
        return isinstance(other, Grid) and self.name == other.name

    def __str__(self):
        return str(self.name)


class Vector:
    """A point of a grid, with operators."""

    def __init__(self, grid, point):
        if not isinstance(grid, Grid):
            raise InvalidGrid("a vector has a grid")
        _check_point(point)
        self.grid = grid
        self.point = point
        self.norm = norm_in(grid, point)

    def turned(self, turn):
        """The vector, turned by any integer."""
        _check_number(turn)
        return MadeVector(self.grid, turned_by(self.grid, self.point, turn))

    def mirrored(self):
        """The conjugate."""
        return MadeVector(self.grid, flipped(self.grid, self.point))

    def power(self, many):
        """The product of so many equal vectors."""
        if not is_integer(many) or many < 0 or many > MAX_POWER:
            raise InvalidNumber(many)
        return MadeVector(self.grid, raised(self.grid, self.point, many))

    def __getitem__(self, index):
        if not is_integer(index) or index < 0 or index > 1:
            raise InvalidNumber(index)
        return self.point[index]

    def __iter__(self):
        raise TypeError("a vector is not iterated over")

    def __add__(self, other):
        _check_partner(self, other)
        return MadeVector(self.grid, plus(self.point, other.point))

    def __sub__(self, other):
        _check_partner(self, other)
        return MadeVector(self.grid, minus(self.point, other.point))

    def __mul__(self, other):
        _check_partner(self, other)
        return MadeVector(self.grid, times(self.grid, self.point, other.point))

    def __floordiv__(self, other):
        _check_partner(self, other)
        point = divided(self.grid, self.point, other.point)
        if point is None:
            raise NoQuotient(other.point)
        return MadeVector(self.grid, point)

    def __neg__(self):
        return MadeVector(self.grid, minus((0, 0), self.point))

    def __bool__(self):
        return bool(self.point != (0, 0))

    def __eq__(self, other):
        return isinstance(other, Vector) and self.grid == other.grid and self.point == other.point

    def __str__(self):
        return f"{write_integer(self.point[0])},{write_integer(self.point[1])}"


class MadeVector(Vector):
    """A vector that comes from others: its parts may have more digits than a passed point's."""

    def __init__(self, grid, point):
        self.grid = grid
        self.point = point
        self.norm = norm_in(grid, point)


def _check_partner(vector, other):
    if not isinstance(other, Vector) or vector.grid != other.grid:
        raise InvalidOperation("operators join vectors of one grid")
