import itertools
import unittest
from unittest import mock

from grownlines.decide import counts as module
from grownlines.decide.counts import count_meetings, cycle_of, is_faulty, layer, orders_of
from grownlines.decide.stands import coming_stands, first_stands, is_stand, reach, stands_within
from grownlines.decide.tables import Table
from grownlines.errors import InvalidNumber, InvalidOperation, InvalidScheme, TooMany
from grownlines.lines.schemes import Scheme
from grownlines.visits.kinds import coming, count_kinds, kinds_of, visits
from grownlines.visits.meetings import FAULTS, crowds, faults_of, meetings, outline

from tests.helpers import (BACK, DRAGON, FLAKE, GOSPER, LEVY, LONG, LOOP, MIXED, ROAD, STAR, TWO, UNEVEN, faulty_pairs,
                           near_pairs, norm, orders_within, others, raised_by, same, sights_of, within)
from tests.test_tables import DENSE, is_scheme, small

# Faults that come and go: edges and crosses need not be there at the next order.
GONE = Scheme.from_lines("grid triangle", "axiom a4 a4 a1", "rule a b0 b0 b5", "rule b b0 b5 b0")
EDGES = Scheme.from_lines("grid triangle", "axiom b5 a0 a2 a3 b1 b1", "rule a b0 b5", "rule b a5 a0")
CROSSES = Scheme.from_lines("grid triangle", "axiom b4 a2 a0 b4 a5 a2", "rule a a0 a0 a1", "rule b a1 a0 b0")
ODD = Scheme.from_lines("grid triangle", "axiom b3 b4", "rule a b0 b0 a5 b0", "rule b a0 a0 a0 b5")
# Two letters that follow one another: all stands come again with the period 2.
SWAP = Scheme.from_lines("grid square", "axiom a0", "rule a b0 b0", "rule b a0 a0")
NINE = Scheme.from_lines("grid triangle", "axiom b0 c3 a4", "rule a a4 b3", "rule b a4 c3", "rule c a3 a4")
CYCLES = (GONE, EDGES, CROSSES, ODD, SWAP, NINE)

# Closed lines of two steps, and lines with many visits at one point.
TWICE = Scheme.from_lines("grid square", "axiom a0 a2", "rule a a0 a0")
OFTEN = Scheme.from_lines("grid square", "axiom a0 a2 a0 a2", "rule a a0 a0")
OPEN = Scheme.from_lines("grid triangle", "axiom a0 a3 a0", "rule a a0 a0 a0")
PILES = (TWICE, OFTEN, OPEN)


def far_norm(scheme):
    return reach(scheme) ** 2


def counted(scheme, order, fault):
    """The number of meetings of a line, from the module that draws it."""
    if fault == "cross":
        return len(list(meetings(scheme, order, fault)))
    found = crowds(scheme, order) if fault == "point" else outline(scheme, order)
    return sum(len(found[place]) * (len(found[place]) - 1) // 2 for place in found)


class Counts(unittest.TestCase):
    def test_all_pairs_of_drawn_lines(self):
        seen = dict.fromkeys(FAULTS, 0)
        tables = [scheme for scheme, _ in small()]
        for scheme, order, line in orders_within(tables + list(CYCLES + PILES), 70):
            for fault in FAULTS:
                expected = len(faulty_pairs(scheme, line, fault))
                self.assertTrue(same(count_meetings(scheme, order, fault), expected), (scheme.lines, order, fault))
                seen[fault] += expected > 0
        self.assertGreater(min(seen.values()), 5)

    def test_longer_lines(self):
        for scheme in (DRAGON, BACK, LEVY, UNEVEN, STAR, TWO, GOSPER, OFTEN, ODD):
            order = [own for _, own, _ in orders_within([scheme], 1500)][-1]
            for fault in FAULTS:
                self.assertEqual(count_meetings(scheme, order, fault), counted(scheme, order, fault))

    def test_clear_schemes(self):
        for scheme in (FLAKE, GOSPER, ROAD):
            for order in (0, 1, 17, 200):
                for fault in FAULTS:
                    self.assertTrue(same(count_meetings(scheme, order, fault), 0))
        for scheme, table in small():
            for fault in FAULTS:
                if table.order_with(fault) is None:
                    self.assertEqual(count_meetings(scheme, 200, fault), 0)
                if fault == "point" and table.order_with(fault) is not None:
                    first = table.order_with(fault)
                    self.assertGreater(count_meetings(scheme, 200, fault), 0)
                    self.assertEqual([count_meetings(scheme, order, fault) for order in range(first)], [0] * first)

    def test_lines_upon_one_another(self):
        for order in (0, 1, 50, 200):
            many = 2 ** order
            self.assertEqual([count_meetings(TWICE, order, fault) for fault in FAULTS], [many - 1, many, 0])
            # Four visits at each point between, and two at each end.
            self.assertEqual([count_meetings(OFTEN, order, fault) for fault in FAULTS],
                             [6 * (many - 1) + 2, 6 * many, 0])
            self.assertEqual([count_meetings(OPEN, order, fault) for fault in FAULTS],
                             [3 * (3 ** order - 1) + 2, 3 * 3 ** order, 0])

    def test_great_orders_from_lower_ones(self):
        # The crossing of this line stays one, and no point is met twice beside it.
        self.assertEqual([count_meetings(LOOP, order, "cross") for order in (0, 1, 99, 200)], [1] * 4)
        self.assertEqual([count_meetings(LOOP, order, "point") for order in (0, 1, 99, 200)], [1] * 4)
        edges = [count_meetings(BACK, order, "edge") for order in range(201)]
        for order in range(7):
            self.assertEqual(edges[order], counted(BACK, order, "edge"))
        # An edge that is passed so often forward and so often backward becomes two: a step forward leads along the
        # first one once, and along the second one twice forward and once backward.
        passed = {(1, 0): 1}
        for order in range(12):
            pairs = sum(many * ((ahead + back) * (ahead + back - 1) // 2) for (ahead, back), many in passed.items())
            self.assertEqual(edges[order], pairs)
            following = {}
            for (ahead, back), many in passed.items():
                for own in ((ahead + back, 2 * back), (2 * ahead, ahead + back)):
                    following[own] = following.get(own, 0) + many
            passed = following

    def test_no_line_is_drawn(self):
        name = "grownlines.lines.grown._replaced"
        with mock.patch(name, side_effect=AssertionError):
            self.assertGreater(count_meetings(LEVY, 200, "cross"), 2 ** 190)
            self.assertGreater(count_meetings(DRAGON, 200, "point"), 2 ** 190)
            self.assertEqual(count_meetings(GOSPER, 200, "edge"), 0)
            self.assertEqual(len(layer(DRAGON, 10 ** 399)), len(layer(DRAGON, 20)))


def sets_by_steps(scheme):
    """The pairs of the sets of stands and of kinds of all orders, until they repeat, and the order from which on."""
    far = far_norm(scheme)

    def near(stands):
        return {stand for stand in stands.values() if norm(scheme.grid.name, stand[3]) <= far}

    layers = near(first_stands(scheme))
    kinds = {kind for kind, _, _ in visits(scheme, 0)}
    known = []
    while (layers, kinds) not in known:
        known.append((layers, kinds))
        layers = set().union(*[near(coming_stands(scheme, stand)) for stand in layers],
                             *[near(stands_within(scheme, kind)) for kind in kinds])
        kinds = {own for kind in kinds for own, _, _ in coming(scheme, kind)}
    return known, known.index((layers, kinds))


def checked():
    """Schemes with small tables, with their sets."""
    schemes = [scheme for scheme, table in small() if len(table) < 700]
    for scheme in schemes + [GONE, SWAP, EDGES, TWICE, OFTEN]:
        yield scheme, *sets_by_steps(scheme)


class Layers(unittest.TestCase):
    def test_drawn_lines(self):
        for scheme, order, line in orders_within([scheme for scheme, _ in small()], 60):
            expected = tuple(sorted({stand for _, _, stand in near_pairs(scheme, line, far_norm(scheme))}))
            self.assertTrue(same(layer(scheme, order), expected))

    def test_all_orders(self):
        kinds_first = 0
        for scheme, known, turn in checked():
            period = len(known) - turn
            self.assertTrue(same(cycle_of(scheme), (turn, period)), scheme.lines)
            for order in {0, 1, 2, turn - 1, turn, turn + 1, len(known) - 1, len(known)} - {-1}:
                there = known[order] if order < turn else known[turn + (order - turn) % period]
                self.assertTrue(same(layer(scheme, order), tuple(sorted(there[0]))))
            # Kinds may repeat earlier than stands; each visit has a neighbour, so that stands tell the kinds.
            kinds = [own for _, own in known]
            kinds_first += kinds.index(kinds[-1]) < len(kinds) - 1
            for stands, own in known:
                self.assertEqual({kind for stand in stands for kind in stand[:2]}, own)
        self.assertGreater(kinds_first, 5)

    def test_known_cycles(self):
        self.assertEqual([cycle_of(scheme) for scheme in (ROAD, SWAP, GONE, EDGES, CROSSES, ODD, NINE)],
                         [(3, 1), (3, 2), (3, 1), (6, 2), (9, 6), (15, 6), (22, 9)])
        self.assertEqual([len(layer(ROAD, order)) for order in (0, 1, 2, 3, 4)], [1, 3, 8, 9, 9])

    def test_great_orders(self):
        great = [10 ** 398 + 7, 10 ** 399 + 3, 10 ** 400 - 1]
        for scheme in (ROAD, SWAP, EDGES, CROSSES, NINE, FLAKE):
            turn, period = cycle_of(scheme)
            for order in great + [turn + 5 * period, turn + 5 * period + 1]:
                least = turn + (order - turn) % period
                self.assertTrue(same(layer(scheme, order), layer(scheme, least)))
                for fault in FAULTS:
                    self.assertIs(is_faulty(scheme, order, fault), is_faulty(scheme, least, fault))

    def test_layers_make_the_table(self):
        for scheme, known, _ in checked():
            self.assertEqual(tuple(sorted(set().union(*[stands for stands, _ in known]))), Table(scheme).stands)
            self.assertEqual(tuple(sorted(set().union(*[kinds for _, kinds in known]))), kinds_of(scheme))
            for order in range(3):
                self.assertEqual(list(count_kinds(scheme, order)), sorted(known[min(order, len(known) - 1)][1])
                                 if order < len(known) else list(count_kinds(scheme, order)))


class Faults(unittest.TestCase):
    def test_drawn_lines(self):
        for scheme, order, _ in orders_within([scheme for scheme, _ in small()] + list(CYCLES + PILES), 300):
            found = faults_of(scheme, order)
            for fault in FAULTS:
                self.assertIs(is_faulty(scheme, order, fault), fault in found)
                self.assertIs(count_meetings(scheme, order, fault) > 0, fault in found)

    def test_orders(self):
        for scheme in [scheme for scheme, table in small() if len(table) < 1500] + list(CYCLES + PILES):
            turn, period = cycle_of(scheme)
            for fault in FAULTS:
                faulty = [order for order in range(turn + period) if is_faulty(scheme, order, fault)]
                expected = (tuple(order for order in faulty if order < turn),
                            tuple(order for order in faulty if order >= turn))
                self.assertTrue(same(orders_of(scheme, fault), expected))
                first = Table(scheme).order_with(fault)
                self.assertEqual(first, faulty[0] if faulty else None)

    def test_faults_that_come_and_go(self):
        self.assertEqual(orders_of(GONE, "edge"), ((0,), ()))
        self.assertEqual(orders_of(EDGES, "edge"), ((1, 3, 5), (7,)))
        self.assertEqual(orders_of(CROSSES, "cross"), ((3, 4, 8), (9, 10, 14)))
        self.assertEqual(orders_of(ODD, "cross"), ((3, 5, 7, 9, 11, 13), (15, 17, 19)))
        for order in range(10):
            self.assertIs(is_faulty(EDGES, order, "edge"), "edge" in faults_of(EDGES, order))
        self.assertEqual([is_faulty(EDGES, 10 ** 399 + more, "edge") for more in (0, 1)], [False, True])
        self.assertEqual([is_faulty(CROSSES, 9 + 6 * 10 ** 300 + more, "cross") for more in range(6)],
                         [True, True, False, False, False, True])
        # A point that is met twice is met twice at all higher orders.
        for scheme, table in small():
            below, above = orders_of(scheme, "point")
            if below + above:
                self.assertEqual(below + above, tuple(range(table.order_with("point"), sum(cycle_of(scheme)))))


class Errors(unittest.TestCase):
    def test_the_constant(self):
        self.assertEqual(module.MAX_CYCLE, 400)

    def test_long_cycles(self):
        for scheme in (CROSSES, NINE, LEVY, SWAP):
            turn, period = cycle_of(scheme)
            with mock.patch("grownlines.decide.counts.MAX_CYCLE", turn + period):
                self.assertEqual(cycle_of(scheme), (turn, period))
                self.assertIs(is_faulty(scheme, 0, "cross"), False)
            with mock.patch("grownlines.decide.counts.MAX_CYCLE", turn + period - 1):
                for call, *rest in [(cycle_of,), (layer, 0), (layer, 10 ** 300), (is_faulty, 0, "point"),
                                    (orders_of, "edge")]:
                    self.assertEqual(raised_by(self, TooMany, call, scheme, *rest).limit, turn + period - 1)
                self.assertGreaterEqual(count_meetings(scheme, 3, "point"), 0)

    def test_too_many_stands(self):
        with mock.patch("grownlines.decide.counts.MAX_CYCLE", 0):
            for call, *rest in [(count_meetings, 0, "point"), (layer, 0), (cycle_of,), (is_faulty, 0, "edge"),
                                (orders_of, "cross")]:
                self.assertEqual(raised_by(self, TooMany, call, DENSE, *rest).limit, 20000)

    def test_what_is_no_scheme(self):
        for value in others(is_scheme):
            for call, *rest in [(count_meetings, None, None), (layer, None), (cycle_of,), (is_faulty, None, None),
                                (orders_of, None)]:
                raised_by(self, InvalidScheme, call, value, *rest)

    def test_what_is_no_order(self):
        for value in others(within(0, 200)) + [-1, 201]:
            self.assertIs(raised_by(self, InvalidNumber, count_meetings, DENSE, value, None).value, value)
        for value in others(within(0, 10 ** 400 - 1)) + [-1]:
            self.assertIs(raised_by(self, InvalidNumber, layer, DENSE, value).value, value)
            self.assertIs(raised_by(self, InvalidNumber, is_faulty, DENSE, value, None).value, value)

    def test_what_is_no_fault(self):
        for value in others() + ["points", ("edge",), 0]:
            raised_by(self, InvalidOperation, count_meetings, DENSE, 0, value)
            raised_by(self, InvalidOperation, is_faulty, DENSE, 10 ** 399, value)
            raised_by(self, InvalidOperation, orders_of, DENSE, value)

    def test_equal_calls(self):
        for call, *rest in [(count_meetings, 30, "point"), (layer, 5), (cycle_of,), (orders_of, "point")]:
            before = LEVY.lines
            self.assertTrue(same(call(LEVY, *rest), call(Scheme.from_lines(*before), *rest)))
            self.assertEqual(LEVY.lines, before)
        self.assertTrue(all(is_stand(LEVY, stand) for stand in layer(LEVY, 3)))

    def test_long_axioms(self):
        many = len(LONG.axiom)
        sights = sights_of(LONG, LONG.axiom)
        self.assertEqual(len(sights), many + 1)
        for scheme in (LONG, *itertools.islice(MIXED, 5)):
            try:
                Table(scheme)
            except TooMany as error:
                raised = raised_by(self, TooMany, count_meetings, scheme, 200, "edge")
                self.assertEqual(raised.limit, error.limit)


if __name__ == "__main__":
    unittest.main()
