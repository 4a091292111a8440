import unittest

from grownlines.errors import InvalidNumber, InvalidOperation, InvalidScheme, TooMany
from grownlines.lines.grown import length_of
from grownlines.lines.schemes import Scheme
from grownlines.visits import meetings as module
from grownlines.visits.meetings import (FAULTS, crowds, faults_of, first_meeting, has_met, meetings, outline)

from tests.helpers import (BACK, DRAGON, FLAKE, FULL, GOSPER, LEVY, LOOP, MIXED, ROAD, STAR, TWO, alternating,
                           axiom_of, faulty_pairs, grow, line_of, orders_within, others, points_of, raised_by, same,
                           sights_of, within)


def is_scheme(value):
    return isinstance(value, Scheme)


def asked(scheme, order, fault):
    """The call of `meetings` that asks for the first result."""
    return next(iter(meetings(scheme, order, fault)), None)


# Closed lines of 5000 and of 4998 steps, open ones of 5000 and 5120, at the order told.
AROUND = Scheme.from_lines("grid square", "axiom a0 a0 a1 a1 a2 a2 a3 a3", "rule a a0 a0 a0 a0 a0")
STRAIGHT = Scheme.from_lines("grid square", "axiom a0 a0 a0 a0 a0 a0 a0 a0", "rule a a0 a0 a0 a0 a0")
TENS = Scheme.from_lines("grid square", "axiom a0 a0 a0 a0 a0 a0 a0 a0 a0 a0", "rule a a0 a0")
# A line that goes between two points all the time.
SHUTTLE = Scheme.from_lines("grid square", "axiom a0 a2 a0 a2 a0 a2 a0 a2", "rule a a0 a2 a0 a0")


class AgainstAllPairs(unittest.TestCase):
    def test_the_constants(self):
        self.assertEqual(module.FAULTS, ("point", "edge", "cross"))
        self.assertEqual(module.MAX_FORCE, 5000)

    def test_meetings(self):
        seen = {fault: 0 for fault in FAULTS}
        for scheme, order, line in orders_within(MIXED + (SHUTTLE,), 130):
            for fault in FAULTS:
                expected = sorted(faulty_pairs(scheme, line, fault))
                found = list(meetings(scheme, order, fault))
                self.assertTrue(same(found, expected), (scheme.lines, order, fault))
                self.assertIs(has_met(scheme, order, fault), bool(expected))
                seen[fault] += len(expected) > 0
            met = tuple(fault for fault in FAULTS if faulty_pairs(scheme, line, fault))
            self.assertTrue(same(faults_of(scheme, order), met))
        self.assertGreater(min(seen.values()), 15)

    def test_ends_missing(self):
        # The first visit of an open line has no step in, its last one none out: they cross nothing.
        scheme = Scheme.from_lines("grid square", "axiom a0 a0 a1 a2 a3 a3 a2 a1", "rule a a0 a0")
        self.assertEqual(list(meetings(scheme, 0, "point")), sorted(faulty_pairs(scheme, axiom_of(scheme), "point")))
        begin = Scheme.from_lines("grid square", "axiom a0 a1 a2 a3 a3", "rule a a0 a0")
        self.assertEqual(list(meetings(begin, 0, "point")), [(0, 4)])
        self.assertEqual(list(meetings(begin, 0, "cross")), [])
        through = Scheme.from_lines("grid square", "axiom a0 a0 a1 a2 a3", "rule a a0 a0")
        self.assertEqual(list(meetings(through, 0, "point")), [(1, 5)])
        self.assertEqual(list(meetings(through, 0, "cross")), [])
        self.assertEqual(list(meetings(LOOP, 0, "cross")), [(1, 5)])

    def test_closed_lines_of_two_steps(self):
        self.assertEqual(list(meetings(TWO, 0, "edge")), [(0, 1)])
        self.assertEqual(faults_of(TWO, 0), ("edge",))
        met = tuple(fault for fault in FAULTS if faulty_pairs(TWO, line_of(TWO, 1), fault))
        self.assertEqual(faults_of(TWO, 1), met)

    def test_crosses_in_the_triangle_grid(self):
        line = axiom_of(STAR)
        self.assertEqual(list(meetings(STAR, 0, "cross")), faulty_pairs(STAR, line, "cross"))
        self.assertTrue(faulty_pairs(STAR, line, "cross"))
        # All pairs of ways through one point: along the first way, around, and along the other one.
        for one in range(6):
            for other in range(6):
                for third in range(6):
                    self.check_ways(one, other, third)

    def check_ways(self, one, other, third):
        # Ways back to the point lead around it, so that just the steps beside it matter.
        turns = [0] + [(way + turn) % 6 for way in (one, other) for turn in (0, 2, 4)] + [third]
        scheme = Scheme.from_lines("grid triangle", "axiom " + " ".join(f"a{turn}" for turn in turns), "rule a a0 a0")
        expected = sorted(faulty_pairs(scheme, axiom_of(scheme), "cross"))
        self.assertEqual(list(meetings(scheme, 0, "cross")), expected, turns)

    def test_crowds_and_outlines(self):
        for scheme, order, line in orders_within(MIXED, 300):
            points = [point for _, _, point in sights_of(scheme, line)]
            expected = {}
            for place in sorted(set(points)):
                numbers = tuple(number for number, point in enumerate(points) if point == place)
                if len(numbers) > 1:
                    expected[place] = numbers
            self.assertTrue(same(crowds(scheme, order), expected))
            ways = points_of(scheme, line)
            edges = [tuple(sorted(pair)) for pair in zip(ways, ways[1:])]
            expected = {edge: tuple(number for number, own in enumerate(edges) if own == edge)
                        for edge in sorted(set(edges))}
            self.assertTrue(same(outline(scheme, order), expected))

    def test_first_meetings(self):
        for scheme in MIXED:
            for fault in FAULTS:
                self.assertTrue(same(first_meeting(scheme, fault), self.first_by_orders(scheme, fault)))

    def first_by_orders(self, scheme, fault):
        """By crowds of points or edges, order by order."""
        line, order = axiom_of(scheme), 0
        while len(line) <= 5000:
            groups = outline(scheme, order) if fault == "edge" else crowds(scheme, order)
            sights = sights_of(scheme, line)
            pairs = [(one, other) for numbers in groups.values() for at, other in enumerate(numbers)
                     for one in numbers[:at] if fault != "cross" or self.crosses(scheme, sights[one], sights[other])]
            if pairs:
                return (order, *min(pairs))
            line, order = grow(scheme, line), order + 1
        return None

    def crosses(self, scheme, one, other):
        many = len(scheme.grid)
        if "" in one[0] or "" in other[0]:
            return False
        return alternating(many, *[(direction, (direction - kind[2] + many // 2) % many)
                                   for kind, direction, _ in (one, other)])

    def test_no_meetings(self):
        for fault in FAULTS:
            self.assertIsNone(first_meeting(ROAD, fault))
            self.assertIsNone(first_meeting(FLAKE, fault))
            self.assertIsNone(first_meeting(GOSPER, fault))
        self.assertEqual(first_meeting(DRAGON, "point"), (4, 7, 11))
        self.assertEqual(first_meeting(LEVY, "edge"), self.first_by_orders(LEVY, "edge"))

    def test_a_fault_of_an_order_that_is_too_long(self):
        # Only the last letter goes back on itself: first at order 5, and at order 6 among 6144 steps.
        last = "f0 f0 f1 f3 f0 f0"
        for letters, expected in [("abcde", 5), ("abcdef", None)]:
            rules = [f"rule {one} " + " ".join([f"{other}0"] * 4) for one, other in zip(letters, letters[1:])]
            rules.append(f"rule {letters[-1]} " + last.replace("f", letters[-1]))
            scheme = Scheme.from_lines("grid square", "axiom a0", *rules)
            found = first_meeting(scheme, "point")
            self.assertEqual(found[0] if found else None, expected)
            self.assertIsNone(first_meeting(scheme, "cross"))


    def test_a_first_meeting_in_a_line_of_5000_steps(self):
        edges = outline(FULL, 4)
        least = min(edges[edge][:2] for edge in edges if len(edges[edge]) > 1)
        self.assertEqual(length_of(FULL, 4), 5000)
        self.assertEqual(first_meeting(FULL, "edge"), (4, *least))


class WhatIsTrueFromOrderToOrder(unittest.TestCase):
    def test_points_stay(self):
        for scheme in MIXED:
            met = False
            for _, order, _ in orders_within([scheme], 2000):
                if met:
                    self.assertTrue(has_met(scheme, order, "point"))
                met = has_met(scheme, order, "point")

    def test_edges_are_points_too(self):
        for scheme, order, line in orders_within(MIXED, 2000):
            if has_met(scheme, order, "edge") and not (scheme.is_closed and len(line) == 2):
                self.assertTrue(has_met(scheme, order, "point"))


class Limits(unittest.TestCase):
    def test_5000_steps(self):
        self.assertEqual(list(meetings(AROUND, 4, "point")), [])
        self.assertEqual(list(meetings(STRAIGHT, 4, "edge")), [])
        self.assertEqual(faults_of(STRAIGHT, 4), ())
        self.assertEqual(len(outline(AROUND, 4)), 5000)
        self.assertEqual(crowds(STRAIGHT, 4), {})

    def test_more_steps(self):
        for scheme, order in [(AROUND, 5), (STRAIGHT, 5), (TENS, 9), (DRAGON, 13), (BACK, 200)]:
            for fault in FAULTS:
                self.assertEqual(raised_by(self, TooMany, asked, scheme, order, fault).limit, 5000)
                self.assertEqual(raised_by(self, TooMany, has_met, scheme, order, fault).limit, 5000)
            for call in (faults_of, crowds, outline):
                self.assertEqual(raised_by(self, TooMany, call, scheme, order).limit, 5000)
            # Other errors come first.
            raised_by(self, InvalidOperation, asked, scheme, order, "points")
            raised_by(self, InvalidOperation, has_met, scheme, order, None)

    def test_many_pairs(self):
        # The pairs come one by one.
        scheme = Scheme.from_lines("grid square", "axiom a0 a2", "rule a a0 a2 a0 a0")
        pairs = meetings(scheme, 5, "point")
        first = [next(pairs) for _ in range(5)]
        self.assertEqual(first, sorted(first))
        self.assertIs(has_met(scheme, 5, "edge"), True)
        self.assertIs(has_met(scheme, 5, "cross"), False)


class Errors(unittest.TestCase):
    def test_errors_come_with_the_first_result(self):
        for values, error in [((None, 0, "point"), InvalidScheme), ((DRAGON, 201, "point"), InvalidNumber),
                              ((DRAGON, 0, "points"), InvalidOperation), ((DRAGON, 13, "point"), TooMany)]:
            results = meetings(*values)
            with self.assertRaises(error):
                next(iter(results))

    def test_what_is_no_scheme(self):
        for value in others(is_scheme):
            for call in (asked, has_met):
                raised_by(self, InvalidScheme, call, value, None, None)
            for call in (faults_of, crowds, outline, first_meeting):
                raised_by(self, InvalidScheme, call, value, None)

    def test_what_is_no_order(self):
        for value in others(within(0, 200)) + [-1, 201]:
            for call in (asked, has_met):
                self.assertIs(raised_by(self, InvalidNumber, call, DRAGON, value, None).value, value)
            for call in (faults_of, crowds, outline):
                self.assertIs(raised_by(self, InvalidNumber, call, DRAGON, value).value, value)

    def test_what_is_no_fault(self):
        for value in others() + ["Point", "points", "poin", ("point",), ["point"], "point ", "cross\n", 0]:
            for call in (asked, has_met):
                raised_by(self, InvalidOperation, call, DRAGON, 3, value)
            raised_by(self, InvalidOperation, first_meeting, DRAGON, value)


if __name__ == "__main__":
    unittest.main()
