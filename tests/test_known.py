"""Schemes of which tables, papers and meetings were asked most: what was answered stays as it is."""

import itertools
import unittest

from grownlines.decide.papers import first_order, is_clear, is_paper, meeting, paper
from grownlines.decide.stands import reach, stand_of
from grownlines.decide.tables import Table, is_closed_under, pairs_to
from grownlines.lines.places import address_of
from grownlines.lines.schemes import Scheme
from grownlines.visits.meetings import FAULTS, crowds, faults_of, first_meeting, has_met, meetings

from tests.helpers import (BACK, DRAGON, LEVY, axiom_of, faulty_pairs, fault_shown, grow, line_of, near_pairs, norm,
                           same, sights_of, stand_between)

FLOW = Scheme.from_lines(
    "grid triangle", "axiom a0", "rule a a0 b1 b3 a2 a0 a0 b5", "rule b a5 b0 b0 b2 a3 a1 b0")
HILL = Scheme.from_lines("grid square", "axiom a0", "rule a a0 a1 a0 a3 a3 a0 a1 a0")

# The numbers of kinds and of stands, and the first orders.
KNOWN = {
    "DRAGON": (DRAGON, 7, 1698, [4, None, None]), "LEVY": (LEVY, 6, 3536, [4, 4, 5]),
    "FLOW": (FLOW, 11, 2841, [None, None, None]), "HILL": (HILL, 5, 252, [None, None, None]),
    "BACK": (BACK, 4, 128, [1, 1, None])}
SCHEMES = tuple(known[0] for known in KNOWN.values())


def lines_within(scheme, most):
    """Orders with their lines, as long as these have at most so many steps."""
    line = axiom_of(scheme)
    order = 0
    while len(line) <= most:
        yield order, line
        line = grow(scheme, line)
        order += 1


def marks_of(scheme, line, fault):
    """The points of all visits, or the edges of all steps."""
    points = [point for _, _, point in sights_of(scheme, line)]
    if fault != "edge":
        return points
    around = points + [(0, 0)] if scheme.is_closed else points
    return [tuple(sorted(pair)) for pair in zip(around, around[1:])]


def by_places(scheme, line, fault):
    """The pairs that meet: of those at one place alone, each with each."""
    sights = sights_of(scheme, line)
    numbers = {}
    for number, mark in enumerate(marks_of(scheme, line, fault)):
        numbers.setdefault(mark, []).append(number)
    pairs = sorted(pair for own in numbers.values() for pair in itertools.combinations(own, 2))
    if fault != "cross":
        return pairs
    return [(one, other) for one, other in pairs
            if fault_shown(scheme, stand_between(scheme.grid.name, sights[one], sights[other]), "cross")]


LEVY_PAPERS = [
    ('meets', (0, 0, 1, 1, 1), (0, 1, 0, 0, 1)),
    ('meets', (0, 0, 1, 1, 1), (0, 1, 0, 0, 0)),
    ('meets', (0, 0, 1, 1, 1, 0), (0, 1, 0, 0, 1, 0))
]


class Tables(unittest.TestCase):
    def test_stands_and_first_orders(self):
        for scheme, kinds, stands, orders in KNOWN.values():
            table = Table(scheme)
            self.assertEqual((len(table.kinds), len(table)), (kinds, stands))
            self.assertEqual(list(table.stands), sorted(set(table.stands)))
            self.assertEqual([table.order_with(fault) for fault in FAULTS], orders)
            self.assertEqual([first_order(scheme, fault) for fault in FAULTS], orders)
            self.assertEqual([is_clear(scheme, fault) for fault in FAULTS], [order is None for order in orders])
            texts = ["none" if order is None else str(order) for order in orders]
            self.assertEqual(str(table), f"table of {stands} stands, first orders {', '.join(texts)}")
            self.assertTrue(same(Table(scheme).stands, table.stands))

    def test_orders_of_all_stands(self):
        for scheme in SCHEMES:
            table = Table(scheme)
            far = reach(scheme) ** 2
            seen = {}
            for order, line in lines_within(scheme, 300):
                for _, _, stand in near_pairs(scheme, line, far):
                    seen.setdefault(stand, order)
            for stand, order in seen.items():
                self.assertEqual(table.order_of(stand), order)
                one, other = table.pair_of(stand)
                self.assertEqual(stand_of(scheme, order, one, other), stand)

    def test_papers(self):
        for scheme, _, _, orders in KNOWN.values():
            table = Table(scheme)
            told = ("clear", table.kinds, table.stands)
            self.assertIs(is_closed_under(scheme, table.kinds, table.stands), True)
            for fault, order in zip(FAULTS, orders):
                self.assertIs(is_paper(scheme, fault, told), order is None)
                value = paper(scheme, fault)
                self.assertIs(is_paper(scheme, fault, value), True)
                if order is None:
                    self.assertTrue(same(value, told))
                else:
                    self.assertEqual([value[0], len(value[1])], ["meets", order + 1])
            for at in range(0, len(table), 97):
                less = table.stands[:at] + table.stands[at + 1:]
                self.assertIs(is_closed_under(scheme, table.kinds, less), False)
                self.assertIs(is_paper(scheme, "cross", ("clear", table.kinds, less)), False)

    def test_papers_as_they_were(self):
        self.assertEqual(paper(DRAGON, "point"), ("meets", (0, 0, 1, 1, 1), (0, 1, 0, 1, 1)))
        self.assertEqual(paper(BACK, "point"), ("meets", (0, 1), (0, 3)))
        self.assertEqual(paper(BACK, "edge"), ("meets", (0, 1), (0, 3)))
        self.assertEqual([paper(LEVY, fault) for fault in FAULTS], LEVY_PAPERS)


class Meetings(unittest.TestCase):
    def test_all_pairs(self):
        for scheme in SCHEMES:
            for order, line in lines_within(scheme, 350):
                for fault in FAULTS:
                    expected = faulty_pairs(scheme, line, fault)
                    self.assertEqual(list(meetings(scheme, order, fault)), sorted(expected))
                    self.assertIs(has_met(scheme, order, fault), bool(expected))
                self.assertEqual(faults_of(scheme, order),
                                 tuple(fault for fault in FAULTS if faulty_pairs(scheme, line, fault)))

    def test_first_meetings(self):
        for scheme, _, _, orders in KNOWN.values():
            for fault, first in zip(FAULTS, orders):
                told = first_meeting(scheme, fault)
                self.assertEqual(told, meeting(scheme, fault))
                if first is None:
                    self.assertIsNone(told)
                    # No line that can be drawn has it.
                    for order, line in lines_within(scheme, 5000):
                        self.assertEqual(by_places(scheme, line, fault), [])
                else:
                    pairs = faulty_pairs(scheme, line_of(scheme, first), fault)
                    self.assertEqual(told, (first, *min(pairs)))
                    for order in range(first):
                        self.assertEqual(faulty_pairs(scheme, line_of(scheme, order), fault), [])

    def test_long_lines(self):
        for scheme, order in ((HILL, 4), (FLOW, 4), (DRAGON, 9), (LEVY, 8), (BACK, 4)):
            line = line_of(scheme, order)
            found = {fault: by_places(scheme, line, fault) for fault in FAULTS}
            self.assertEqual(faults_of(scheme, order), tuple(fault for fault in FAULTS if found[fault]))
            for fault in FAULTS:
                self.assertEqual(list(meetings(scheme, order, fault)), found[fault])
            points = crowds(scheme, order)
            self.assertEqual(list(points), sorted(points))
            self.assertEqual(sum(len(own) * (len(own) - 1) // 2 for own in points.values()), len(found["point"]))


class Pairs(unittest.TestCase):
    def test_all_pairs(self):
        for scheme in SCHEMES:
            for order, line in lines_within(scheme, 600):
                expected = near_pairs(scheme, line, reach(scheme) ** 2)
                self.assertTrue(same(list(pairs_to(scheme, order)), expected))

    def test_order_4(self):
        for scheme, many in ((FLOW, 97071), (HILL, 43921), (BACK, 22330)):
            found = list(pairs_to(scheme, 4))
            self.assertEqual(len(found), many)
            self.assertEqual([pair[:2] for pair in found], sorted(pair[:2] for pair in found))
            sights = sights_of(scheme, line_of(scheme, 4))
            far = reach(scheme) ** 2
            # Each with each, but without the stands.
            for number in range(0, len(sights), 53):
                x, y = sights[number][2]
                near = [other for other in range(number + 1, len(sights)) if norm(
                    scheme.grid.name, (sights[other][2][0] - x, sights[other][2][1] - y)) <= far]
                own = [triple for triple in found if triple[0] == number]
                self.assertEqual([other for _, other, _ in own], near)
                for _, other, stand in own:
                    self.assertEqual(stand, stand_between(scheme.grid.name, sights[number], sights[other]))
            one, other, stand = found[len(found) // 2]
            addresses = [address_of(scheme, 4, number) for number in (one, other)]
            self.assertEqual(stand_of(scheme, 4, *addresses), stand)


if __name__ == "__main__":
    unittest.main()
