import itertools
import random
import unittest

from grownlines.base import grids
from grownlines.base.grids import Grid
from grownlines.errors import InvalidGrid, InvalidNumber, InvalidOperation, InvalidPoint, NoQuotient

from tests.helpers import (BOTH, INTEGERS, SQUARE, TRIANGLE, UNITS, VALUES, add, integer, others, point, product,
                           raised_by, same)

SMALL = list(itertools.product(range(-3, 4), repeat=2))
DRAW = random.Random(7)
LARGE = [(DRAW.randrange(-10 ** 399, 10 ** 399), DRAW.randrange(-10 ** size, 10 ** size))
         for size in (1, 50, 200, 399, 399)]


class Shape(unittest.TestCase):
    def test_there_are_two_grids(self):
        self.assertEqual(grids.GRIDS, ("square", "triangle"))
        for name in grids.GRIDS:
            self.assertEqual(Grid(name).name, name)
            self.assertEqual(str(Grid(name)), name)

    def test_other_names_are_refused(self):
        for value in others(lambda value: value in ("square", "triangle")) + ["Square", "square ", "squar", "hex"]:
            raised_by(self, InvalidGrid, Grid, value)

    def test_directions(self):
        self.assertEqual([SQUARE.half, TRIANGLE.half], [2, 3])
        self.assertEqual([len(SQUARE), len(TRIANGLE)], [4, 6])
        for grid in BOTH:
            self.assertTrue(same(grid.units, tuple(UNITS[grid.name])))
            self.assertEqual(list(grid), UNITS[grid.name])
            self.assertEqual(list(grid), list(grid))

    def test_equality(self):
        self.assertTrue(Grid("square") == SQUARE)
        self.assertFalse(Grid("square") != SQUARE)
        self.assertTrue(SQUARE != TRIANGLE)
        for value in others(lambda value: isinstance(value, Grid)):
            self.assertIs(SQUARE == value, False)
            self.assertIs(SQUARE != value, True)

    def test_values_in_a_grid(self):
        for value in VALUES:
            self.assertEqual(value in TRIANGLE, value in UNITS["triangle"])

    def test_units_of_any_integer(self):
        for grid in BOTH:
            many = len(grid)
            for number in list(range(-20, 20)) + INTEGERS:
                self.assertEqual(grid.unit(number), UNITS[grid.name][number % many])
            for value in others(integer):
                self.assertIs(raised_by(self, InvalidNumber, grid.unit, value).value, value)

    def test_directions_of_units(self):
        for grid in BOTH:
            for value in SMALL + LARGE:
                units = UNITS[grid.name]
                self.assertEqual(grid.direction_of(value), units.index(value) if value in units else None)
            for value in others(point):
                raised_by(self, InvalidPoint, grid.direction_of, value)


class Products(unittest.TestCase):
    def test_products(self):
        for grid in BOTH:
            for one, other in itertools.product(SMALL + LARGE, repeat=2):
                self.assertEqual(grid.product(one, other), product(grid.name, one, other))

    def test_units_are_powers_of_the_first_turn(self):
        for grid in BOTH:
            for number, unit in enumerate(UNITS[grid.name]):
                self.assertEqual(grid.product(unit, (0, 1)), UNITS[grid.name][(number + 1) % len(grid)])

    def test_norms(self):
        for a, b in SMALL + LARGE:
            self.assertEqual(SQUARE.norm_of((a, b)), a * a + b * b)
            self.assertEqual(TRIANGLE.norm_of((a, b)), a * a + a * b + b * b)
        for grid in BOTH:
            for one, other in itertools.product(SMALL, repeat=2):
                norm = grid.norm_of(grid.product(one, other))
                self.assertEqual(norm, grid.norm_of(one) * grid.norm_of(other))

    def test_conjugates(self):
        for a, b in SMALL + LARGE:
            self.assertEqual(SQUARE.conjugate_of((a, b)), (a, -b))
            self.assertEqual(TRIANGLE.conjugate_of((a, b)), (a + b, -b))
            for grid in BOTH:
                back = product(grid.name, (a, b), grid.conjugate_of((a, b)))
                self.assertEqual(back, (grid.norm_of((a, b)), 0))

    def test_turns(self):
        for grid in BOTH:
            for value in SMALL + LARGE:
                for turn in list(range(-8, 9)) + INTEGERS:
                    unit = UNITS[grid.name][turn % len(grid)]
                    self.assertEqual(grid.turned(value, turn), product(grid.name, value, unit))
                self.assertEqual(grid.turned(value, grid.half), (-value[0], -value[1]))

    def test_quotients_are_told_just_where_they_are(self):
        for grid in BOTH:
            for divisor in [(1, 0), (1, 1), (2, 0), (2, 1), (-1, 2), (3, 0), (-3, -2)]:
                reached = {product(grid.name, value, divisor): value
                           for value in itertools.product(range(-12, 13), repeat=2)}
                for value in SMALL:
                    self.assertEqual(grid.quotient(value, divisor), reached.get(value))

    def test_quotients_of_great_points(self):
        for grid in BOTH:
            for one, divisor in [((10 ** 150 + 7, -3), (5 ** 100, 1)), ((0, 1), LARGE[1]), ((0, 0), LARGE[3])]:
                whole = product(grid.name, one, divisor)
                self.assertEqual(grid.quotient(whole, divisor), one)
                if grid.norm_of(divisor) > 1:
                    self.assertIsNone(grid.quotient(add(whole, (1, 0)), divisor))

    def test_results_may_have_more_digits_than_arguments(self):
        nines = (10 ** 400 - 1, 10 ** 400 - 1)
        for grid in BOTH:
            self.assertEqual(grid.product(nines, nines), product(grid.name, nines, nines))

    def test_wrong_points_are_refused(self):
        for grid in BOTH:
            for value in others(point):
                raised_by(self, InvalidPoint, grid.product, value, (1, 0))
                raised_by(self, InvalidPoint, grid.product, (1, 0), value)
                raised_by(self, InvalidPoint, grid.norm_of, value)
                raised_by(self, InvalidPoint, grid.conjugate_of, value)
                raised_by(self, InvalidPoint, grid.turned, value, 1)
                raised_by(self, InvalidPoint, grid.quotient, value, (1, 0))
                raised_by(self, InvalidPoint, grid.quotient, (1, 0), value)

    def test_the_first_wrong_argument_is_told(self):
        for grid in BOTH:
            for value in others(integer):
                self.assertIs(raised_by(self, InvalidNumber, grid.turned, (1, 2), value).value, value)
                raised_by(self, InvalidPoint, grid.turned, [1, 2], value)
            raised_by(self, InvalidPoint, grid.quotient, None, (0, 0))
            raised_by(self, InvalidPoint, grid.quotient, (0, 0), [0, 0])
            for value in [(0, 0), (1, 2)]:
                self.assertEqual(raised_by(self, NoQuotient, grid.quotient, value, (0, 0)).divisor, (0, 0))


class Alternation(unittest.TestCase):
    def expected(self, many, ends, rest):
        """Going around from one end, the ends of both pairs come in turn."""
        around = [(ends[0] + turn) % many for turn in range(many)]
        marks = ["x" if end in {part % many for part in ends} else "o"
                 for end in around if end in {part % many for part in ends + rest}]
        return len({part % many for part in ends + rest}) == 4 and marks == ["x", "o", "x", "o"]

    def test_all_pairs(self):
        for grid in BOTH:
            many = len(grid)
            for ends in itertools.product(range(many), repeat=4):
                found = grid.alternate(ends[:2], ends[2:])
                self.assertIs(found, self.expected(many, ends[:2], ends[2:]), ends)
                shifted = (ends[0] - many, ends[1] + many * 10 ** 300, ends[2] - many * 10 ** 300, ends[3] + many)
                self.assertIs(grid.alternate(shifted[:2], shifted[2:]), found, ends)

    def test_wrong_pairs_are_refused(self):
        for grid in BOTH:
            for value in others(point):
                raised_by(self, InvalidOperation, grid.alternate, value, (0, 1))
                raised_by(self, InvalidOperation, grid.alternate, (0, 1), value)


if __name__ == "__main__":
    unittest.main()
