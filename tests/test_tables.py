import functools
import random
import unittest

from grownlines.decide import tables as module
from grownlines.decide.stands import coming_stands, first_stands, reach, stand_of, stands_within
from grownlines.decide.tables import Table, is_closed_under, pairs_to
from grownlines.errors import InvalidNumber, InvalidOperation, InvalidScheme, InvalidStand, TooMany
from grownlines.lines.schemes import Scheme
from grownlines.visits.kinds import coming, kinds_of
from grownlines.visits.meetings import FAULTS, first_meeting, has_met

from tests.helpers import (BACK, DRAGON, FLAKE, GOSPER, LEVY, LOOP, MIXED, ROAD, STAR, TWO, UNEVEN, VALUES, fault_shown,
                           line_of, near_pairs, norm, orders_within, others, raised_by, same, sights_of, within)

# Six letters and a small growth: far too many stands.
DENSE = Scheme.from_lines(
    "grid square", "axiom a0 b1 c2 d3 e0 f1", *[f"rule {letter} " + rest for letter, rest in zip("abcdef", [
        "a0 b1 c2 d3 e0 f1", "b0 c1 d2 e3 f0 a1", "c1 d0 e3 f2 a1 b0", "d1 e0 f3 a2 b0 c1", "e1 f2 a3 b0 c1 d0",
        "f0 a0 b2 c1 d1 e3"])])


def is_scheme(value):
    return isinstance(value, Scheme)


def far_norm(scheme):
    return reach(scheme) ** 2


@functools.cache
def table_of(number):
    """The table of one of the mixed schemes, None if it has too many stands."""
    try:
        return Table(MIXED[number])
    except TooMany:
        return None


def tabled():
    """The mixed schemes that have tables, with these."""
    return [(scheme, table_of(number)) for number, scheme in enumerate(MIXED) if table_of(number) is not None]


def small():
    """Those with small tables."""
    return [(scheme, table) for scheme, table in tabled() if len(table) < 2000]


def closure(scheme, kinds, stands):
    """The least tuples with these kinds and stands and those of order 0 that have all that must be there."""
    far = far_norm(scheme)

    def near(found):
        return [stand for stand in found.values() if norm(scheme.grid.name, stand[3]) <= far]

    known = {}
    waiting = list(kinds) + list(stands) + list(kinds_of(scheme)) + near(first_stands(scheme))
    while waiting:
        seen = waiting.pop()
        if seen not in known:
            known[seen] = True
            if len(seen) == 3:
                waiting += [kind for kind, _, _ in coming(scheme, seen)] + near(stands_within(scheme, seen))
            else:
                waiting += near(coming_stands(scheme, seen))
    return (tuple(sorted(seen for seen in known if len(seen) == 3)),
            tuple(sorted(seen for seen in known if len(seen) == 4)))


class Tables(unittest.TestCase):
    def test_the_constant(self):
        self.assertEqual(module.MAX_TABLE, 20000)

    def test_the_stands_of_all_lines(self):
        complete = 0
        for scheme, table in small():
            seen = {}
            last = None
            for _, order, line in orders_within([scheme], 330):
                before = len(seen)
                for _, _, stand in near_pairs(scheme, line, far_norm(scheme)):
                    seen.setdefault(stand, order)
                last = (order, before == len(seen))
            for stand, order in seen.items():
                self.assertIn(stand, table)
                self.assertEqual(table.order_of(stand), order)
            # All stands of the table that are told of these orders have been seen there.
            self.assertEqual(sum(table.order_of(stand) <= last[0] for stand in table), len(seen))
            complete += len(seen) == len(table)
            self.assertTrue(same(table.kinds, kinds_of(scheme)))
        self.assertGreater(complete, 5)

    def test_tables_are_the_least_closed_sets(self):
        for scheme, table in small():
            self.assertTrue(same((table.kinds, table.stands), closure(scheme, (), ())))

    def test_pairs(self):
        for scheme, table in small():
            draw = random.Random(1)
            for stand in draw.sample(table.stands, min(60, len(table))):
                order = table.order_of(stand)
                one, other = table.pair_of(stand)
                self.assertEqual([len(one), len(other)], [order + 1, order + 1])
                self.assertLess(one, other)
                self.assertTrue(same(stand_of(scheme, order, one, other), stand))

    def test_faults(self):
        for scheme, table in small():
            for fault in FAULTS:
                expected = tuple(stand for stand in table.stands if fault_shown(scheme, stand, fault))
                self.assertTrue(same(table.wrong(fault), expected))
                orders = [table.order_of(stand) for stand in expected]
                self.assertEqual(table.order_with(fault), min(orders) if orders else None)

    def test_first_orders_against_lines_by_force(self):
        for scheme, table in tabled():
            for fault in FAULTS:
                found = first_meeting(scheme, fault)
                order = table.order_with(fault)
                if found is not None:
                    self.assertEqual(order, found[0])
                else:
                    drawn = max(own for _, own, _ in orders_within([scheme], 5000))
                    self.assertTrue(order is None or order > drawn)
                if order is not None:
                    self.assertLessEqual(order, len(table) + len(table.kinds))

    def test_a_late_first_order(self):
        # The letters follow one another, and the last one goes back on itself.
        letters = "abcdef"
        rules = [f"rule {one} {other}0 {other}0 {other}0 {other}0" for one, other in zip(letters, letters[1:])]
        scheme = Scheme.from_lines("grid square", "axiom a0", *rules, "rule f f0 f0 f1 f3 f0 f0")
        table = Table(scheme)
        self.assertEqual([table.order_with(fault) for fault in FAULTS], [6, 6, None])
        self.assertEqual(str(table), f"table of {len(table)} stands, first orders 6, 6, none")

    def test_known_tables(self):
        self.assertEqual(str(Table(FLAKE)), "table of 50 stands, first orders none, none, none")
        self.assertEqual([str(Table(scheme)).partition(", ")[2] for scheme in (DRAGON, BACK, LOOP, STAR, TWO, LEVY)],
                         ["first orders 4, none, none", "first orders 1, 1, none", "first orders 0, none, 0",
                          "first orders 0, 0, 0", "first orders 1, 0, none", "first orders 4, 4, 5"])


class Values(unittest.TestCase):
    def test_membership_length_and_iteration(self):
        for scheme in (DRAGON, FLAKE, ROAD, BACK, TWO):
            table = Table(scheme)
            self.assertEqual(table.scheme, scheme)
            self.assertEqual(len(table), len(table.stands))
            self.assertEqual(list(table), list(table.stands))
            self.assertEqual(list(table.stands), sorted(set(table.stands)))
            self.assertTrue(all(stand in table for stand in table.stands))
            for value in VALUES + list(table.kinds):
                self.check_none(table, value)
            for stand in table.stands[:20]:
                kind, other, turn, vector = stand
                for value in [list(stand), (kind, other, bool(turn), vector), (kind, other, turn, list(vector)),
                              (kind, other, turn, (vector[0], 10 ** 400)), (kind, other, turn, (vector[0], 10 ** 6)),
                              (kind, other), (stand,)]:
                    self.check_none(table, value)

    def check_none(self, table, value):
        self.assertIs(value in table, False)
        raised_by(self, InvalidStand, table.order_of, value)
        raised_by(self, InvalidStand, table.pair_of, value)

    def test_true_is_not_1(self):
        table = Table(DRAGON)
        stand = next(stand for stand in table.stands if stand[2] == 1 and stand[3][0] == 1)
        kind, other, turn, vector = stand
        self.check_none(table, (kind, other, True, vector))
        self.check_none(table, (kind, other, turn, (True, vector[1])))

    def test_equality(self):
        table = Table(FLAKE)
        self.assertTrue(table == Table(Scheme.from_lines(*FLAKE.lines[::-1])))
        self.assertFalse(table != Table(FLAKE))
        self.assertFalse(table == Table(ROAD))
        self.assertTrue(table != Table(ROAD))
        for value in VALUES + [table.stands, table.scheme, str(table)]:
            self.assertIs(table == value, False)
            self.assertIs(table != value, True)
            self.assertIs(value == table, False)

    def test_what_is_no_fault(self):
        table = Table(FLAKE)
        for value in others() + ["points", ("edge",), 0]:
            raised_by(self, InvalidOperation, table.wrong, value)
            raised_by(self, InvalidOperation, table.order_with, value)

    def test_too_many_stands(self):
        self.assertEqual(raised_by(self, TooMany, Table, DENSE).limit, 20000)
        # Tables of 19997 and of 20009 stands, both with 40 kinds.
        below = Scheme.from_lines("grid square", "axiom a0", "rule a b0 a3 b0", "rule b c0 a0 c3", "rule c d0 c0 a3",
                                  "rule d c3 b0 b0")
        above = Scheme.from_lines("grid triangle", "axiom a0", "rule a a0 d3 d0 b0", "rule b e3 b0 a0 e0",
                                  "rule c c0 f0 e0 d3", "rule d a0 a0 e0 b3", "rule e b0 b3 f0 d0",
                                  "rule f a0 b3 c0 d0")
        self.assertEqual(len(Table(below)), 19997)
        self.assertEqual(raised_by(self, TooMany, Table, above).limit, 20000)
        self.assertEqual([len(own) for own in closure(above, (), ())], [40, 20009])
        known = [scheme for scheme, _ in tabled()]
        great = [scheme for scheme in MIXED if scheme not in known]
        self.assertTrue(great)
        for scheme in great:
            self.assertEqual(raised_by(self, TooMany, Table, scheme).limit, 20000)
            self.assertGreater(len(closure(scheme, (), ())[1]), 20000)
        self.assertTrue(any(len(table) > 10000 for _, table in tabled()))

    def test_what_is_no_scheme(self):
        for value in others(is_scheme):
            raised_by(self, InvalidScheme, Table, value)


class ClosedSets(unittest.TestCase):
    def check(self, scheme, kinds, stands, expected):
        self.assertIs(is_closed_under(scheme, kinds, stands), expected)

    def test_tables_are_closed(self):
        for scheme, table in small():
            self.check(scheme, table.kinds, table.stands, True)

    def test_nothing_is_left_out(self):
        draw = random.Random(5)
        for scheme, table in small():
            if len(table) > 700:
                continue
            for kind in table.kinds:
                self.check(scheme, tuple(own for own in table.kinds if own != kind), table.stands, False)
            for stand in draw.sample(table.stands, min(25, len(table))):
                self.check(scheme, table.kinds, tuple(own for own in table.stands if own != stand), False)
            self.check(scheme, (), (), False)
            self.check(scheme, table.kinds, (), False)
            self.check(scheme, (), table.stands, False)

    def test_each_stand_of_a_small_table(self):
        for scheme in (FLAKE, ROAD, LOOP):
            table = Table(scheme)
            for at in range(len(table)):
                self.check(scheme, table.kinds, table.stands[:at] + table.stands[at + 1:], False)

    def test_greater_closed_sets(self):
        draw = random.Random(6)
        grown = 0
        for scheme, table in small():
            if len(table) > 700:
                continue
            kinds = [("a", "a", turn) for turn in range(len(scheme.grid))] + [("", "a", 0), ("a", "", 0)]
            size = reach(scheme)
            stand = (draw.choice(kinds), draw.choice(kinds), 0, draw.choice([(1, 0), (0, 1), (size, 0), (-1, 0)]))
            for more_kinds, more_stands in [(kinds, ()), ((), (stand,)), (kinds[:1], (stand,))]:
                kinds_there, stands_there = closure(scheme, more_kinds, more_stands)
                self.check(scheme, kinds_there, stands_there, True)
                if stands_there != table.stands:
                    grown += 1
                    self.check_added(scheme, table, kinds_there, stands_there)
        self.assertGreater(grown, 10)

    def check_added(self, scheme, table, kinds, stands):
        """What is added has its own followers, too."""
        added = [stand for stand in stands if stand not in table]
        for stand in added[:8]:
            rest = tuple(own for own in stands if own != stand)
            expected = closure(scheme, kinds, rest)[1] == rest
            self.check(scheme, kinds, rest, expected)

    def test_what_is_no_tuple_of_kinds(self):
        table = Table(DRAGON)
        kinds, stands = table.kinds, table.stands
        wrong = [list(kinds), kinds[::-1], kinds[:1] * 2 + kinds[1:], kinds + (("z", "a", 0),), kinds + (None,),
                 (("", "", 0),) + kinds, stands, dict.fromkeys(kinds)]
        for value in [value for value in VALUES if value != ()] + wrong:
            raised_by(self, InvalidOperation, is_closed_under, DRAGON, value, stands)
            raised_by(self, InvalidOperation, is_closed_under, DRAGON, value, None)

    def test_what_is_no_tuple_of_stands(self):
        table = Table(FLAKE)
        kinds, stands = table.kinds, table.stands
        far = (kinds[0], kinds[0], 0, (3, 1))
        near = (kinds[0], kinds[0], 0, (3, 0))
        self.check(FLAKE, *closure(FLAKE, (), (near,)), True)
        wrong = [list(stands), stands[::-1], stands[:1] * 2 + stands[1:], tuple(sorted(stands + (far,))), (far,), kinds,
                 stands + (None,), (stands,), stands + (stands[-1],)]
        for value in [value for value in VALUES if value != ()] + wrong:
            raised_by(self, InvalidOperation, is_closed_under, FLAKE, kinds, value)

    def test_what_is_no_scheme(self):
        for value in others(is_scheme):
            raised_by(self, InvalidScheme, is_closed_under, value, None, None)


class Pairs(unittest.TestCase):
    def test_lines(self):
        for scheme, order, line in orders_within(MIXED, 90):
            expected = near_pairs(scheme, line, far_norm(scheme))
            self.assertTrue(same(list(pairs_to(scheme, order)), sorted(expected)))

    def test_longer_lines(self):
        for scheme in (FLAKE, GOSPER, UNEVEN, DRAGON):
            order, line = [(own, line) for _, own, line in orders_within([scheme], 800)][-1]
            sights = sights_of(scheme, line)
            far = far_norm(scheme)
            expected = [(one, other) for one in range(len(sights)) for other in range(one + 1, len(sights))
                        if norm(scheme.grid.name, (sights[other][2][0] - sights[one][2][0],
                                                   sights[other][2][1] - sights[one][2][1])) <= far]
            found = list(pairs_to(scheme, order))
            self.assertEqual([(one, other) for one, other, _ in found], expected)

    def test_the_limit(self):
        closed = Scheme.from_lines("grid square", "axiom a0 a0 a1 a1 a2 a2 a3 a3", "rule a a0 a0 a0 a0 a0")
        self.assertEqual(next(iter(pairs_to(closed, 4)))[:2], (0, 1))
        opened = Scheme.from_lines("grid square", "axiom a0 a0 a0 a0 a0 a0 a0 a0", "rule a a0 a0 a0 a0 a0")
        for scheme, order in [(opened, 4), (closed, 5), (DRAGON, 13), (DRAGON, 200)]:
            self.assertEqual(raised_by(self, TooMany, self.asked, scheme, order).limit, 5000)

    def asked(self, scheme, order):
        return next(iter(pairs_to(scheme, order)), None)

    def test_errors_come_with_the_first_result(self):
        for values, error in [((None, 0), InvalidScheme), ((DRAGON, 201), InvalidNumber), ((DRAGON, 13), TooMany)]:
            results = pairs_to(*values)
            with self.assertRaises(error):
                next(iter(results))

    def test_wrong_arguments(self):
        for value in others(is_scheme):
            raised_by(self, InvalidScheme, self.asked, value, None)
        for value in others(within(0, 200)) + [-1, 201]:
            self.assertIs(raised_by(self, InvalidNumber, self.asked, DRAGON, value).value, value)
        self.assertEqual(len(line_of(DRAGON, 3)), 8)
        self.assertIs(has_met(DRAGON, 4, "point"), True)


if __name__ == "__main__":
    unittest.main()
