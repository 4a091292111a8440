import random
import unittest

from grownlines.errors import InvalidNumber, InvalidOperation, InvalidPoint, InvalidScheme, TooMany
from grownlines.lines.grown import length_of
from grownlines.lines.places import end_of, point_at, step_at
from grownlines.lines.schemes import Scheme
from grownlines.visits import points as module
from grownlines.visits.points import count_at, is_passed, steps_on, visits_at

from tests.helpers import (BACK, DRAGON, FLAKE, GOSPER, MIXED, SCHEMES, THERE_AND_BACK, UNITS, VALUES, add, line_of,
                           orders_within, others, point, points_of, product, raised_by, same, visits_of, within)


def is_scheme(value):
    return isinstance(value, Scheme)


def around(points):
    """The points, and those beside them."""
    return sorted({(x + right, y + up) for x, y in points for right in (-1, 0, 1) for up in (-1, 0, 1)})


def numbers_on(scheme, line, one, other):
    points = points_of(scheme, line)
    return tuple(number for number, pair in enumerate(zip(points, points[1:])) if pair in ((one, other), (other, one)))


# Closed, with exactly 1000 visits at the points told.
THOUSAND = Scheme.from_lines("grid square", "axiom a0 a2 a0 a2 a0 a2 a0 a2", "rule a a0 a2 a0 a2 a0 a2 a0 a2 a0 a0")
# With 1001 visits at (5, 0).
MORE = Scheme.from_lines("grid square", "axiom a0 b2 a0 a2 a0 b2", "rule a b0 b2 b0 a2 b0 a2 b0 a2 b0 a2 a0 a0",
                         "rule b b0 a2 b0 b2 a0 b2 a0 a2 b0 a0")
# Open, with 1000 visits at the end, which is another one.
LAST = Scheme.from_lines("grid square", "axiom a0 b2 b0 b2 a0 b2 a0", "rule a a0 b0 a0 a2 a0 a2 b2 a0 a0 b2",
                         "rule b b0 b2 b2 b0 b0 b2 b0 a2 b0 b0 b0 b2")
# With 1000 steps, and with 1001, between (7, 0) and (8, 0).
EDGE = Scheme.from_lines("grid square", "axiom a0 b2 a0 b2 b0 b2 a0 a2", "rule a a0 a2 a0 a0",
                         "rule b a0 b2 b0 b2 b0 b2 b0 a2 b0 a2 b0 a0")
MORE_EDGE = Scheme.from_lines("grid square", "axiom a0 a2 b0 a2 b0 b2 b0 b2 b0", "rule a a0 b2 a0 b2 b0 b2 a0 b2 a0 b0",
                              "rule b b0 a2 a0 a2 a0 a2 b0 b2 b0 a0")


class ShortLines(unittest.TestCase):
    def test_every_point_in_and_around(self):
        for scheme, order, line in orders_within(MIXED, 50):
            visits = visits_of(scheme, line)
            for place in around(visits):
                expected = tuple(number for number, own in enumerate(visits) if own == place)
                self.assertTrue(same(visits_at(scheme, order, place), expected), (scheme.lines, order, place))
                self.assertEqual(count_at(scheme, order, place), len(expected))
                self.assertIs(is_passed(scheme, order, place), len(expected) > 0)

    def test_every_edge_in_and_around(self):
        for scheme, order, line in orders_within(MIXED, 20):
            units = UNITS[scheme.grid.name]
            for place in around(visits_of(scheme, line)):
                for unit in units:
                    other = add(place, unit)
                    expected = numbers_on(scheme, line, place, other)
                    self.assertTrue(same(steps_on(scheme, order, place, other), expected))

    def test_far_points(self):
        great = 10 ** 400 - 1
        for scheme in SCHEMES:
            for order in (0, 1, 5, 199, 200):
                for place in [(great, great), (-great, 0), (0, -great), (10 ** 399, -10 ** 398), (12 ** 300, 5)]:
                    self.assertEqual(count_at(scheme, order, place), 0)
                    self.assertEqual(visits_at(scheme, order, place), ())
                    self.assertIs(is_passed(scheme, order, place), False)
        self.assertEqual(steps_on(DRAGON, 200, (great, great), (great - 1, great)), ())


class GreatOrders(unittest.TestCase):
    def test_points_of_drawn_numbers(self):
        draw = random.Random(6)
        for scheme in MIXED:
            for order in (200, draw.randrange(60, 200)):
                self.check_numbers(draw, scheme, order)

    def check_numbers(self, draw, scheme, order):
        length = length_of(scheme, order)
        numbers = [0, length - 1, draw.randrange(length)] + ([] if scheme.is_closed else [length])
        for number in numbers:
            place = point_at(scheme, order, number)
            many = count_at(scheme, order, place)
            self.assertIs(is_passed(scheme, order, place), True)
            if many > 1000:
                raised_by(self, TooMany, visits_at, scheme, order, place)
                continue
            found = visits_at(scheme, order, place)
            self.assertEqual(len(found), many)
            self.assertEqual(list(found), sorted(set(found)))
            self.assertIn(number, found)
            for other in (found[:3] + found[-3:]):
                self.assertEqual(point_at(scheme, order, other), place)

    def test_edges_of_drawn_numbers(self):
        draw = random.Random(7)
        for scheme in MIXED:
            number = draw.randrange(length_of(scheme, 200))
            one = point_at(scheme, 200, number)
            other = add(one, UNITS[scheme.grid.name][step_at(scheme, 200, number)[1]])
            try:
                found = steps_on(scheme, 200, one, other)
            except TooMany:
                self.assertGreater(count_at(scheme, 200, one) + count_at(scheme, 200, other), 1000)
                continue
            self.assertIn(number, found)
            self.assertEqual(steps_on(scheme, 200, other, one), found)
            visits = visits_at(scheme, 200, one) + visits_at(scheme, 200, other)
            self.assertTrue(set(found) <= set(visits))
            for step in visits:
                if step < length_of(scheme, 200):
                    begin = point_at(scheme, 200, step)
                    end = add(begin, UNITS[scheme.grid.name][step_at(scheme, 200, step)[1]])
                    self.assertEqual(step in found, {begin, end} == {one, other})

    def test_the_dragon_goes_on_with_itself(self):
        # The line of each order is the beginning of the next one, and comes to no point more than twice.
        visits = visits_of(DRAGON, line_of(DRAGON, 9))
        for place in around(visits[:40]):
            many = count_at(DRAGON, 200, place)
            self.assertLessEqual(visits.count(place), many)
            self.assertLessEqual(many, 2)
            found = visits_at(DRAGON, 200, place)
            self.assertEqual([number for number in found if number < 512],
                             [number for number, own in enumerate(visits[:-1]) if own == place])

    def test_known_counts(self):
        self.assertEqual(count_at(BACK, 200, (1, 0)), 2)
        self.assertEqual(count_at(BACK, 2, (3, 0)), 6)
        self.assertIs(is_passed(DRAGON, 4, (0, -1)), False)

    def test_counts_of_a_lower_order_at_points_times_the_growth(self):
        # Visits at a point times the growth come from those at the point, or lie between steps.
        for scheme in (FLAKE, GOSPER, DRAGON):
            for order in (60, 199):
                place = point_at(scheme, order, length_of(scheme, order) // 7)
                above = product(scheme.grid.name, place, scheme.growth)
                self.assertGreaterEqual(count_at(scheme, order + 1, above), count_at(scheme, order, place))

    def test_ends(self):
        for scheme in MIXED:
            for order in (0, 3, 200):
                end = end_of(scheme, order)
                self.assertIs(is_passed(scheme, order, end), True)
                if count_at(scheme, order, end) <= 1000:
                    last = 0 if scheme.is_closed else length_of(scheme, order)
                    self.assertIn(last, visits_at(scheme, order, end))


class Limits(unittest.TestCase):
    def test_the_constant(self):
        self.assertEqual(module.MAX_LISTED, 1000)

    def test_1000_visits(self):
        visits = visits_of(THOUSAND, line_of(THOUSAND, 3))
        for x in range(1, 8):
            found = visits_at(THOUSAND, 3, (x, 0))
            self.assertEqual(len(found), 1000)
            self.assertEqual(found, tuple(number for number, own in enumerate(visits) if own == (x, 0)))

    def test_more_visits(self):
        self.assertEqual(count_at(MORE, 3, (5, 0)), 1001)
        self.assertEqual(raised_by(self, TooMany, visits_at, MORE, 3, (5, 0)).limit, 1000)
        self.assertEqual(count_at(LAST, 3, end_of(LAST, 3)), 1001)
        self.assertEqual(raised_by(self, TooMany, visits_at, LAST, 3, end_of(LAST, 3)).limit, 1000)
        self.assertEqual(raised_by(self, TooMany, visits_at, THERE_AND_BACK, 200, (2, 0)).limit, 1000)
        self.assertGreater(count_at(THERE_AND_BACK, 200, (2, 0)), 10 ** 40)

    def test_1000_steps(self):
        found = steps_on(EDGE, 3, (7, 0), (8, 0))
        self.assertEqual(len(found), 1000)
        self.assertEqual(found, numbers_on(EDGE, line_of(EDGE, 3), (7, 0), (8, 0)))
        for ends in [((7, 0), (8, 0)), ((8, 0), (7, 0))]:
            self.assertEqual(raised_by(self, TooMany, steps_on, MORE_EDGE, 3, *ends).limit, 1000)
        self.assertEqual(len(numbers_on(MORE_EDGE, line_of(MORE_EDGE, 3), (7, 0), (8, 0))), 1001)

    def test_no_unit_comes_before_too_many(self):
        raised_by(self, InvalidOperation, steps_on, MORE_EDGE, 3, (7, 0), (7, 0))
        raised_by(self, InvalidOperation, steps_on, MORE_EDGE, 3, (7, 0), (9, 0))


class Errors(unittest.TestCase):
    def test_what_is_no_scheme(self):
        for value in others(is_scheme):
            for call in (count_at, is_passed, visits_at):
                raised_by(self, InvalidScheme, call, value, None, None)
            raised_by(self, InvalidScheme, steps_on, value, None, None, None)

    def test_what_is_no_order(self):
        for value in others(within(0, 200)) + [-1, 201]:
            for call in (count_at, is_passed, visits_at):
                self.assertIs(raised_by(self, InvalidNumber, call, DRAGON, value, None).value, value)
            self.assertIs(raised_by(self, InvalidNumber, steps_on, DRAGON, value, None, (0, 0)).value, value)

    def test_what_is_no_point(self):
        for value in others(point) + [(True, 0), (0, 10 ** 400), [0, 0], (0,), (0, 0, 0)]:
            for call in (count_at, visits_at):
                raised_by(self, InvalidPoint, call, DRAGON, 3, value)
            self.assertIs(is_passed(DRAGON, 3, value), False)
            raised_by(self, InvalidPoint, steps_on, DRAGON, 3, value, (5, 5))
            raised_by(self, InvalidPoint, steps_on, DRAGON, 3, (5, 5), value)
        for value in VALUES:
            if point(value):
                self.assertIs(is_passed(DRAGON, 4, value), value in visits_of(DRAGON, line_of(DRAGON, 4)))

    def test_no_unit_between_points(self):
        for scheme in (DRAGON, FLAKE):
            units = UNITS[scheme.grid.name]
            for x in range(-2, 3):
                for y in range(-2, 3):
                    if (x, y) in units:
                        steps_on(scheme, 2, (3, 4), (3 + x, 4 + y))
                    else:
                        raised_by(self, InvalidOperation, steps_on, scheme, 2, (3, 4), (3 + x, 4 + y))


if __name__ == "__main__":
    unittest.main()
