import random
import unittest
from unittest import mock

from grownlines.decide.papers import first_order, is_clear, is_paper, lift, meeting, paper
from grownlines.decide.stands import reach, stand_of
from grownlines.decide.tables import Table, is_closed_under
from grownlines.errors import InvalidOperation, InvalidScheme, TooMany
from grownlines.lines.schemes import Scheme
from grownlines.visits.kinds import is_address_of, visit_at
from grownlines.visits.meetings import FAULTS, first_meeting, outline

from tests.helpers import (BACK, DRAGON, FLAKE, FULL, GOSPER, LEVY, MIXED, NEARLY, ROAD, STAR, TWO, UNEVEN, VALUES,
                           addresses_of_line, fault_shown, faulty_pairs, line_of, norm, orders_within, others,
                           raised_by, same, visits_of)
from tests.test_tables import DENSE, closure, small


def is_scheme(value):
    return isinstance(value, Scheme)


def late(letters, items, last):
    """A scheme of which only the last letter goes back on itself, straight on before."""
    rules = [f"rule {one} " + " ".join([f"{other}0"] * items) for one, other in zip(letters, letters[1:])]
    return Scheme.from_lines("grid square", "axiom a0", *rules, f"rule {letters[-1]} {last}")


# The line of the first order has 6144 steps, or 1536.
LATE = late("abcdef", 4, "f0 f0 f1 f3 f0 f0")
EARLY = late("abcde", 4, "e0 e0 e1 e3 e0 e0")


class Orders(unittest.TestCase):
    def test_against_lines_by_force(self):
        for scheme, table in small():
            for fault in FAULTS:
                order = table.order_with(fault)
                self.assertEqual(first_order(scheme, fault), order)
                self.assertIs(is_clear(scheme, fault), order is None)
                found = first_meeting(scheme, fault)
                if found is not None:
                    self.assertEqual(order, found[0])

    def test_known_schemes(self):
        self.assertEqual([first_order(DRAGON, fault) for fault in FAULTS], [4, None, None])
        self.assertEqual([is_clear(FLAKE, fault) for fault in FAULTS], [True] * 3)
        self.assertEqual([is_clear(GOSPER, fault) for fault in FAULTS], [True] * 3)
        self.assertEqual([first_order(LATE, fault) for fault in FAULTS], [6, 6, None])

    def test_what_is_true_of_changed_schemes(self):
        # Mirrored, a scheme is as clear.
        for scheme in (DRAGON, LEVY, UNEVEN, BACK):
            many = len(scheme.grid)
            rules = {letter: scheme[letter].mirrored().row for letter in scheme}
            axiom = tuple((letter, -turn % many) for letter, turn in scheme.axiom)
            mirrored = Scheme(scheme.grid, axiom, rules)
            for fault in FAULTS:
                self.assertEqual(first_order(mirrored, fault), first_order(scheme, fault))


class Papers(unittest.TestCase):
    def test_papers(self):
        for scheme, table in small():
            for fault in FAULTS:
                value = paper(scheme, fault)
                self.assertIs(is_paper(scheme, fault, value), True)
                order = table.order_with(fault)
                if order is None:
                    self.assertTrue(same(value, ("clear", table.kinds, table.stands)))
                    continue
                word, one, other = value
                self.assertEqual((word, len(one), len(other)), ("meets", order + 1, order + 1))
                self.assertTrue(fault_shown(scheme, stand_of(scheme, order, one, other), fault))

    def test_all_pairs_of_visits(self):
        for scheme, order, line in orders_within(MIXED, 26):
            addresses = addresses_of_line(scheme, order)
            for fault in FAULTS:
                pairs = faulty_pairs(scheme, line, fault)
                for one in range(len(addresses)):
                    for other in range(len(addresses)):
                        value = ("meets", addresses[one], addresses[other])
                        self.assertIs(is_paper(scheme, fault, value), (one, other) in pairs)

    def test_later_orders_than_the_first_one(self):
        for scheme in (DRAGON, BACK, LEVY, TWO, STAR):
            for order in (5, 6):
                line = line_of(scheme, order)
                if len(line) > 500:
                    continue
                addresses = addresses_of_line(scheme, order)
                for fault in FAULTS:
                    for one, other in faulty_pairs(scheme, line, fault)[:20]:
                        self.assertIs(is_paper(scheme, fault, ("meets", addresses[one], addresses[other])), True)
                        self.assertIs(is_paper(scheme, fault, ("meets", addresses[other], addresses[one])), False)

    def test_orders_up_to_20000(self):
        # Visits of number 0 stay at one point once they have met.
        for order, expected in [(4, True), (199, True), (250, True), (20000, True), (20001, False), (20010, False)]:
            rest = (0,) * (order - 4)
            value = ("meets", (0, 0, 1, 1, 1) + rest, (0, 1, 0, 1, 1) + rest)
            self.assertIs(is_paper(DRAGON, "point", value), expected)
            self.assertIs(is_paper(DRAGON, "cross", value), False)
            self.assertIs(is_paper(DRAGON, "point", ("meets", value[2], value[1])), False)

    def test_wrong_addresses(self):
        one, other = (0, 0, 1, 1, 1), (0, 1, 0, 1, 1)
        for wrong in [(0, 0, 1, 1), (0, 0, 1, 1, 1, 0), (0, 0, 1, 1, 2), (0, 0, 1, 1, True), [0, 0, 1, 1, 1], (), None,
                      (0, 0, 1, 1, 0), other, (1, 0, 0, 0, 0), (-1, 0, 1, 1, 1), "00111"] + VALUES:
            self.assertIs(is_paper(DRAGON, "point", ("meets", wrong, other)), False)
            self.assertIs(is_paper(DRAGON, "point", ("meets", one, wrong)), same(wrong, other))
        self.assertIs(is_paper(DRAGON, "point", ("meets", (), ())), False)
        self.assertIs(is_paper(DRAGON, "point", ("meets", one, other)), True)

    def test_values_of_other_forms(self):
        table = Table(FLAKE)
        good = ("clear", table.kinds, table.stands)
        self.assertIs(is_paper(FLAKE, "point", good), True)
        wrong = [list(good), good[:2], good + ((),), ("clear",), ("Clear",) + good[1:], ("meets",) + good[1:],
                 ("clear", table.stands, table.kinds), ("clear", list(table.kinds), table.stands),
                 ("clear", table.kinds, list(table.stands)), ("clear", table.kinds, dict.fromkeys(table.stands)),
                 (None,) + good[1:], (True,) + good[1:], (good, good, good), ("clear", (0, 1), (0, 2))]
        for value in VALUES + wrong + [("clear", value, table.stands) for value in VALUES] + [
                ("clear", table.kinds, value) for value in VALUES] + [(value,) + good[1:] for value in VALUES]:
            for fault in FAULTS:
                self.assertIs(is_paper(FLAKE, fault, value), False)

    def test_greater_sets(self):
        draw = random.Random(2)
        accepted = 0
        for scheme, table in small():
            if len(table) > 400:
                continue
            kinds = [("a", "a", turn) for turn in range(len(scheme.grid))] + [("", "a", 0), ("a", "", 0)]
            for _ in range(6):
                stand = (draw.choice(kinds), draw.choice(kinds), draw.randrange(len(scheme.grid)),
                         draw.choice([(1, 1), (2, 0), (0, -2), (-1, 1), (reach(scheme), 0)]))
                more = [[], [draw.choice(kinds)]][draw.randrange(2)]
                sets = closure(scheme, more, [stand] if norm(scheme.grid.name, stand[3]) <= reach(scheme) ** 2 else [])
                for fault in FAULTS:
                    expected = not any(fault_shown(scheme, own, fault) for own in sets[1])
                    self.assertIs(is_paper(scheme, fault, ("clear", *sets)), expected)
                    accepted += expected and sets[1] != table.stands
        self.assertGreater(accepted, 5)

    def test_nothing_is_left_out(self):
        for scheme in (FLAKE, ROAD, DRAGON):
            table = Table(scheme)
            fault = "cross"
            self.assertIs(is_paper(scheme, fault, ("clear", table.kinds, table.stands)), True)
            for kind in table.kinds:
                kinds = tuple(own for own in table.kinds if own != kind)
                self.assertIs(is_paper(scheme, fault, ("clear", kinds, table.stands)), False)
            for stand in random.Random(4).sample(table.stands, min(20, len(table))):
                stands = tuple(own for own in table.stands if own != stand)
                self.assertIs(is_paper(scheme, fault, ("clear", table.kinds, stands)), False)
            self.assertIs(is_paper(scheme, fault, ("clear", table.kinds[::-1], table.stands)), False)
            self.assertIs(is_paper(scheme, fault, ("clear", table.kinds, table.stands[::-1])), False)

    def test_papers_of_another_fault_or_scheme(self):
        table = Table(DRAGON)
        value = ("clear", table.kinds, table.stands)
        self.assertEqual([is_paper(DRAGON, fault, value) for fault in FAULTS], [False, True, True])
        self.assertIs(is_closed_under(DRAGON, table.kinds, table.stands), True)
        self.assertIs(is_paper(FLAKE, "cross", value), False)
        self.assertIs(is_paper(LEVY, "cross", value), False)
        flake = Table(FLAKE)
        self.assertIs(is_paper(GOSPER, "cross", ("clear", flake.kinds, flake.stands)), False)

    def test_no_fault_without_a_paper(self):
        # A stand that shows the fault makes a closed set no paper.
        table = Table(ROAD)
        kinds, stands = closure(ROAD, (), [(("a", "a", 0), ("a", "a", 0), 0, (0, 0))])
        self.assertIs(is_closed_under(ROAD, kinds, stands), True)
        self.assertEqual([is_paper(ROAD, fault, ("clear", kinds, stands)) for fault in FAULTS], [False, False, True])
        self.assertLess(len(table), len(stands))

    def test_no_limit_for_papers(self):
        for fault in FAULTS:
            self.assertEqual(raised_by(self, TooMany, paper, DENSE, fault).limit, 20000)
            self.assertEqual(raised_by(self, TooMany, is_clear, DENSE, fault).limit, 20000)
            self.assertEqual(raised_by(self, TooMany, first_order, DENSE, fault).limit, 20000)
            self.assertEqual(raised_by(self, TooMany, meeting, DENSE, fault).limit, 20000)
            found = first_meeting(DENSE, fault)
            addresses = addresses_of_line(DENSE, found[0])
            value = ("meets", addresses[found[1]], addresses[found[2]])
            self.assertIs(is_paper(DENSE, fault, value), True)
            self.assertIs(is_paper(DENSE, fault, ("clear", (), ())), False)


class Meetings(unittest.TestCase):
    def test_the_least_pair(self):
        for scheme, table in small():
            for fault in FAULTS:
                order = table.order_with(fault)
                if order is None:
                    self.assertIsNone(meeting(scheme, fault))
                elif len(line_of(scheme, order)) < 400:
                    pairs = faulty_pairs(scheme, line_of(scheme, order), fault)
                    self.assertTrue(same(meeting(scheme, fault), (order, *min(pairs))))

    def test_lines_that_are_too_long(self):
        self.assertEqual(first_order(LATE, "point"), 6)
        self.assertEqual(raised_by(self, TooMany, meeting, LATE, "point").limit, 5000)
        self.assertEqual(meeting(EARLY, "point"), (5, 2, 4))
        self.assertIsNone(meeting(LATE, "cross"))

    def test_first_orders_above_200(self):
        # No scheme at hand has so late a first order: what is told of it is put in its place.
        for order, limit in [(201, 200), (20000, 200), (200, 5000), (13, 5000)]:
            with mock.patch("grownlines.decide.papers.first_order", return_value=order):
                self.assertEqual(raised_by(self, TooMany, meeting, DRAGON, "point").limit, limit)

    def test_5000_visits(self):
        # Open lines of 4999 and of 5000 steps have one visit more.
        edges = outline(NEARLY, 4)
        self.assertEqual(sum(len(edges[edge]) for edge in edges), 4999)
        least = min(edges[edge][:2] for edge in edges if len(edges[edge]) > 1)
        self.assertEqual(meeting(NEARLY, "edge"), (4, *least))
        edges = outline(FULL, 4)
        self.assertEqual(sum(len(edges[edge]) for edge in edges), 5000)
        self.assertEqual(first_order(FULL, "edge"), 4)
        self.assertEqual(raised_by(self, TooMany, meeting, FULL, "edge").limit, 5000)


class Lifts(unittest.TestCase):
    def test_against_lines_by_force(self):
        for scheme, table in small():
            for order in (0, 1):
                addresses = addresses_of_line(scheme, order)
                draw = random.Random(order)
                for _ in range(12):
                    if len(addresses) > 1:
                        one, other = sorted(draw.sample(addresses, 2))
                        self.check(scheme, order, one, other)

    def check(self, scheme, order, one, other):
        found = lift(scheme, one, other)
        expected = self.least_order(scheme, order, one, other)
        if found is None:
            self.assertIsNone(expected)
            return
        self.assertEqual(found[1][:order + 1], one)
        self.assertEqual(found[2][:order + 1], other)
        for address in found[1:]:
            self.assertIs(is_address_of(scheme, found[0], address), True)
        points = [visit_at(scheme, found[0], address)[2] for address in found[1:]]
        self.assertEqual(points[0], points[1])
        if expected is not None:
            self.assertEqual(found[0], expected)
        else:
            self.assertGreater(len(line_of(scheme, found[0])), 700)

    def least_order(self, scheme, order, one, other):
        """The least order of lines that are short enough at which both have a point in common."""
        for _, own, line in orders_within([scheme], 700):
            if own >= order:
                places = {}
                for address, place in zip(addresses_of_line(scheme, own), visits_of(scheme, line)):
                    places.setdefault(address[:order + 1], set()).add(place)
                if places[one] & places[other]:
                    return own
        return None

    def test_known_lifts(self):
        self.assertEqual(lift(DRAGON, (0, 0), (0, 1)), (4, (0, 0, 1, 1, 1), (0, 1, 0, 1, 1)))
        self.assertIsNone(lift(FLAKE, (0,), (1,)))
        self.assertIsNone(lift(ROAD, (0,), (1,)))
        # Two visits that are at one point already.
        one, other = (0, 0, 1, 1, 1), (0, 1, 0, 1, 1)
        self.assertEqual(lift(DRAGON, one, other), (4, one, other))
        # What comes from a far visit, and from the end, which is one visit at every order.
        self.assertIsNone(lift(DRAGON, (0, 0, 0, 0, 0, 0, 0, 0, 0), (1, 0, 0, 0, 0, 0, 0, 0, 0)))

    def test_neighbours_of_great_orders(self):
        for order in (200, 2000, 20000):
            rest = (0,) * (order - 1)
            found = lift(DRAGON, rest + (0, 0), rest + (0, 1))
            self.assertEqual(found[0], order + 3)
            self.assertEqual(found[1], rest + (0, 0, 1, 1, 1))
            self.assertEqual(found[2], rest + (0, 1, 0, 1, 1))

    def test_too_many_stands(self):
        self.assertEqual(raised_by(self, TooMany, lift, DENSE, (0,), (1,)).limit, 20000)
        # Far visits have no stands between them.
        far = [(0,) * 9, (5,) + (0,) * 8]
        self.assertIsNone(lift(DENSE, *far))

    def test_wrong_addresses(self):
        for value in VALUES + [(0,), (1, 1), (2, 0), (0, 2), (0, True), [0, 0], (0, 0, 0), (1, 0)]:
            raised_by(self, InvalidOperation, lift, DRAGON, value, (0, 1) if value != (0,) else (0, 0))
            raised_by(self, InvalidOperation, lift, DRAGON, (1, 0), value)
        raised_by(self, InvalidOperation, lift, DRAGON, (0, 1), (0, 0))
        raised_by(self, InvalidOperation, lift, DRAGON, (0, 1), (0, 1))
        raised_by(self, InvalidOperation, lift, DRAGON, (), ())
        raised_by(self, InvalidOperation, lift, DRAGON, (0,) * 20001 + (0,), (0,) * 20001 + (1,))


class Errors(unittest.TestCase):
    def test_what_is_no_scheme(self):
        for value in others(is_scheme):
            for call in (is_clear, first_order, paper, meeting):
                raised_by(self, InvalidScheme, call, value, None)
            for call in (is_paper, lift):
                raised_by(self, InvalidScheme, call, value, None, None)

    def test_what_is_no_fault(self):
        for value in others() + ["points", ("edge",), 0, "clear"]:
            for scheme in (FLAKE, DENSE):
                for call in (is_clear, first_order, paper, meeting):
                    raised_by(self, InvalidOperation, call, scheme, value)
                raised_by(self, InvalidOperation, is_paper, scheme, value, None)


if __name__ == "__main__":
    unittest.main()
