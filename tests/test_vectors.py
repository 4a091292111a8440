import itertools
import unittest

from grownlines.base.grids import Grid, Vector
from grownlines.errors import InvalidGrid, InvalidNumber, InvalidOperation, InvalidPoint, NoQuotient

from tests.helpers import (BOTH, INTEGERS, SQUARE, TRIANGLE, UNITS, VALUES, add, integer, others, point, product,
                           raised_by, within)

POINTS = list(itertools.product(range(-2, 3), repeat=2)) + [(10 ** 399, -7), (-10 ** 300, 10 ** 399)]


class Vectors(unittest.TestCase):
    def check(self, vector, grid, value):
        self.assertIsInstance(vector, Vector)
        self.assertEqual(vector.grid, grid)
        self.assertEqual(vector.point, value)
        a, b = value
        self.assertEqual(vector.norm, a * a + b * b + (a * b if grid.name == "triangle" else 0))
        self.assertEqual([vector[0], vector[1]], [a, b])

    def test_what_a_vector_has(self):
        for grid in BOTH:
            for value in POINTS:
                self.check(Vector(grid, value), grid, value)

    def test_wrong_arguments(self):
        for value in others(lambda value: isinstance(value, Grid)):
            raised_by(self, InvalidGrid, Vector, value, (1, 2))
            raised_by(self, InvalidGrid, Vector, value, None)
        for value in others(point):
            raised_by(self, InvalidPoint, Vector, SQUARE, value)

    def test_sums_and_products(self):
        for grid in BOTH:
            for one, other in itertools.product(POINTS, repeat=2):
                first, second = Vector(grid, one), Vector(Grid(grid.name), other)
                self.check(first + second, grid, add(one, other))
                self.check(first - second, grid, (one[0] - other[0], one[1] - other[1]))
                self.check(first * second, grid, product(grid.name, one, other))
                self.check(-first, grid, (-one[0], -one[1]))
                self.check(first, grid, one)
                self.check(second, grid, other)

    def test_quotients(self):
        for grid in BOTH:
            for one, divisor in itertools.product(POINTS, repeat=2):
                whole = Vector(grid, one) * Vector(grid, divisor)
                if divisor == (0, 0):
                    error = raised_by(self, NoQuotient, lambda a, b: a // b, whole, Vector(grid, divisor))
                    self.assertEqual(error.divisor, (0, 0))
                else:
                    self.check(whole // Vector(grid, divisor), grid, one)
            error = raised_by(self, NoQuotient, lambda a, b: a // b, Vector(grid, (1, 0)), Vector(grid, (1, 1)))
            self.assertEqual(error.divisor, (1, 1))

    def test_what_is_no_partner(self):
        vector = Vector(SQUARE, (1, 2))
        strange = others(lambda value: isinstance(value, Vector)) + [Vector(TRIANGLE, (1, 2)), Vector(TRIANGLE, (0, 0))]
        for call in (lambda a, b: a + b, lambda a, b: a - b, lambda a, b: a * b, lambda a, b: a // b):
            for value in strange:
                raised_by(self, InvalidOperation, call, vector, value)

    def test_turned_and_mirrored(self):
        for grid in BOTH:
            for value in POINTS:
                vector = Vector(grid, value)
                for turn in list(range(-7, 8)) + INTEGERS:
                    unit = UNITS[grid.name][turn % len(grid)]
                    self.check(vector.turned(turn), grid, product(grid.name, value, unit))
                mirror = (value[0] + (value[1] if grid.name == "triangle" else 0), -value[1])
                self.check(vector.mirrored(), grid, mirror)
            for value in others(integer):
                self.assertIs(raised_by(self, InvalidNumber, Vector(grid, (1, 2)).turned, value).value, value)

    def test_powers(self):
        for grid in BOTH:
            for value in [(0, 0), (1, 0), (1, 1), (-2, 3), (10 ** 20, 1)]:
                result = (1, 0)
                for many in range(12):
                    self.check(Vector(grid, value).power(many), grid, result)
                    result = product(grid.name, result, value)
            result = (1, 0)
            for _ in range(1000):
                result = product(grid.name, result, (3, -2))
            self.check(Vector(grid, (3, -2)).power(1000), grid, result)
            for value in others(within(0, 1000)) + [1001, -1]:
                self.assertIs(raised_by(self, InvalidNumber, Vector(grid, (1, 2)).power, value).value, value)

    def test_great_powers_are_vectors_like_others(self):
        for grid in BOTH:
            vector = Vector(grid, (10 ** 399 + 1, -10 ** 399))
            whole = vector.power(20)
            self.check(whole // vector.power(19), grid, vector.point)
            self.assertTrue(whole == vector.power(10) * vector.power(10))
            self.assertTrue(whole)
            self.assertEqual(str(Vector(grid, (10, 0)).power(1000).power(9)), "1" + "0" * 9000 + ",0")

    def test_parts(self):
        vector = Vector(SQUARE, (5, 6))
        for value in others(within(0, 1)) + [-1, 2, -2]:
            self.assertIs(raised_by(self, InvalidNumber, lambda index: vector[index], value).value, value)

    def test_iteration_is_refused(self):
        for call in (iter, list, tuple, sum, lambda value: [*value], lambda value: 5 in value):
            with self.assertRaises(TypeError):
                call(Vector(SQUARE, (5, 6)))

    def test_texts_and_truth(self):
        for grid in BOTH:
            for a, b in POINTS:
                self.assertEqual(str(Vector(grid, (a, b))), f"{a},{b}")
                self.assertIs(bool(Vector(grid, (a, b))), a != 0 or b != 0)
            self.assertEqual(str(Vector(grid, (-10 ** 399, 0))), "-1" + "0" * 399 + ",0")

    def test_equality(self):
        for one, other in itertools.product(POINTS, repeat=2):
            for first, second in itertools.product(BOTH, repeat=2):
                equal = one == other and first is second
                self.assertIs(Vector(first, one) == Vector(second, other), equal)
                self.assertIs(Vector(first, one) != Vector(second, other), not equal)
        self.assertTrue(Vector(SQUARE, (1, 0)) + Vector(SQUARE, (0, 1)) == Vector(SQUARE, (1, 1)))
        self.assertTrue(Vector(SQUARE, (1, 1)) == Vector(SQUARE, (1, 0)) + Vector(SQUARE, (0, 1)))
        for value in VALUES:
            if not isinstance(value, Vector):
                self.assertIs(Vector(SQUARE, (1, 2)) == value, False)
                self.assertIs(Vector(SQUARE, (1, 2)) != value, True)


if __name__ == "__main__":
    unittest.main()
