import random
import unittest

from grownlines.errors import InvalidNumber, InvalidPoint, InvalidScheme
from grownlines.lines.grown import length_of
from grownlines.lines.places import end_of, point_at
from grownlines.lines.schemes import Scheme
from grownlines.measure.boxes import area, box, farthest, total_turn
from grownlines.visits.kinds import count_kinds

from tests.helpers import (DRAGON, FLAKE, MIXED, ROAD, SCHEMES, THERE_AND_BACK, VALUES, orders_within, others, point,
                           points_of, raised_by, same, sights_of, visits_of, within)

GREAT = 10 ** 400 - 1
WEIGHTS = [(1, 0), (0, 1), (-1, 0), (0, -1), (0, 0), (1, 1), (1, -1), (-2, 1), (3, 5), (-7, -4), (GREAT, -GREAT),
           (10 ** 399, 10 ** 399 + 1), (-GREAT, 1), (0, GREAT)]


def is_scheme(value):
    return isinstance(value, Scheme)


def value_of(weights, place):
    return weights[0] * place[0] + weights[1] * place[1]


def bends(scheme, line):
    """The bends at all visits with both steps, by the steps beside them."""
    many = len(scheme.grid)
    turns = [(after[1] - before[1]) % many for before, after in zip(line, line[1:])]
    if points_of(scheme, line)[-1] == (0, 0):
        turns.append((line[0][1] - line[-1][1]) % many)
    return [turn if turn <= many // 2 else turn - many for turn in turns]


class ShortLines(unittest.TestCase):
    def test_farthest(self):
        draw = random.Random(2)
        for scheme, order, line in orders_within(MIXED, 150):
            visits = visits_of(scheme, line)
            for weights in WEIGHTS + [(draw.randrange(-9, 10), draw.randrange(-9, 10)) for _ in range(6)]:
                values = [value_of(weights, place) for place in visits]
                expected = (max(values), values.index(max(values)))
                self.assertTrue(same(farthest(scheme, order, weights), expected), (scheme.lines, order, weights))

    def test_boxes(self):
        for scheme, order, line in orders_within(MIXED, 600):
            firsts = [place[0] for place in visits_of(scheme, line)]
            seconds = [place[1] for place in visits_of(scheme, line)]
            expected = (min(firsts), min(seconds), max(firsts), max(seconds))
            self.assertTrue(same(box(scheme, order), expected))

    def test_areas(self):
        for scheme, order, line in orders_within(MIXED, 600):
            points = points_of(scheme, line)
            expected = sum(a * d - b * c for (a, b), (c, d) in zip(points, points[1:]))
            self.assertTrue(same(area(scheme, order), expected))

    def test_total_turns(self):
        for scheme, order, line in orders_within(MIXED, 600):
            self.assertTrue(same(total_turn(scheme, order), sum(bends(scheme, line))))

    def test_lines_around_an_area(self):
        around = Scheme.from_lines("grid square", "axiom a0 a1 a2 a3", "rule a a0 a0 a0")
        back = Scheme.from_lines("grid triangle", "axiom a0 a5 a4 a3 a2 a1", "rule a a0 a0")
        for order in (0, 1, 5, 200):
            self.assertEqual(area(around, order), 2 * 9 ** order)
            self.assertEqual(area(back, order), -6 * 4 ** order)
            self.assertEqual([total_turn(around, order), total_turn(back, order)], [4, -6])
            self.assertEqual(box(around, order), (0, 0, 3 ** order, 3 ** order))


class GreatOrders(unittest.TestCase):
    def test_the_number_has_the_value(self):
        draw = random.Random(4)
        for scheme in MIXED:
            order = draw.choice([200, 199, draw.randrange(40, 199)])
            length = length_of(scheme, order)
            last = length - 1 if scheme.is_closed else length
            for weights in draw.sample(WEIGHTS, 4):
                value, number = farthest(scheme, order, weights)
                self.assertEqual(value_of(weights, point_at(scheme, order, number)), value)
                for other in [0, last, number - 1, number + 1] + [draw.randrange(length) for _ in range(4)]:
                    if 0 <= other <= last:
                        seen = value_of(weights, point_at(scheme, order, other))
                        self.assertLessEqual(seen, value)
                        self.assertFalse(seen == value and other < number)

    def test_the_end_is_looked_at(self):
        straight = Scheme.from_lines("grid square", "axiom a0", "rule a a0 a0")
        self.assertEqual(farthest(straight, 200, (1, 0)), (2 ** 200, 2 ** 200))
        self.assertEqual(farthest(straight, 200, (-1, 0)), (0, 0))
        self.assertEqual(farthest(straight, 200, (0, -5)), (0, 0))
        self.assertEqual(box(straight, 200), (0, 0, 2 ** 200, 0))
        for scheme in SCHEMES:
            self.assertGreaterEqual(farthest(scheme, 200, (1, 3))[0], value_of((1, 3), end_of(scheme, 200)))

    def test_boxes_have_the_farthest_points(self):
        for scheme in MIXED:
            for order in (200, 131):
                sides = [farthest(scheme, order, weights)[0] for weights in ((-1, 0), (0, -1), (1, 0), (0, 1))]
                self.assertEqual(box(scheme, order), (-sides[0], -sides[1], sides[2], sides[3]))

    def test_areas_order_by_order(self):
        # Each step of the flake adds a triangle to the area: one vector product, on its right.
        self.assertEqual([area(FLAKE, order) for order in (0, 1, 2)], [-1, -12, -120])
        for order in (1, 2, 50, 199):
            self.assertEqual(area(FLAKE, order + 1), 9 * area(FLAKE, order) - length_of(FLAKE, order))
        # A line along the x axis goes around nothing.
        self.assertEqual(area(ROAD, 200), 0)

    def test_total_turns_of_closed_lines(self):
        self.assertEqual([total_turn(FLAKE, order) for order in range(0, 201, 40)], [-6] * 6)
        # Both steps back count as bends to the left.
        self.assertEqual(total_turn(THERE_AND_BACK, 0), 4)
        for scheme in MIXED:
            counts = count_kinds(scheme, 200)
            expected = 0
            for (before, after, turn), many in counts.items():
                if before and after:
                    expected += many * (turn if turn <= len(scheme.grid) // 2 else turn - len(scheme.grid))
            self.assertEqual(total_turn(scheme, 200), expected)


class Errors(unittest.TestCase):
    def test_what_is_no_scheme(self):
        for value in others(is_scheme):
            for call in (box, area, total_turn):
                raised_by(self, InvalidScheme, call, value, None)
            raised_by(self, InvalidScheme, farthest, value, None, None)

    def test_what_is_no_order(self):
        for value in others(within(0, 200)) + [-1, 201]:
            for call in (box, area, total_turn):
                self.assertIs(raised_by(self, InvalidNumber, call, DRAGON, value).value, value)
            self.assertIs(raised_by(self, InvalidNumber, farthest, DRAGON, value, None).value, value)

    def test_what_are_no_weights(self):
        for value in others(point) + [[1, 0], (1,), (1, 0, 0), (True, 0), (0, 10 ** 400)]:
            raised_by(self, InvalidPoint, farthest, FLAKE, 200, value)
        for value in VALUES:
            if point(value):
                farthest(FLAKE, 3, value)


if __name__ == "__main__":
    unittest.main()
