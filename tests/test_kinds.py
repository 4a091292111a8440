import itertools
import random
import unittest

from grownlines.errors import InvalidNumber, InvalidOperation, InvalidScheme, TooMany
from grownlines.lines.grown import length_of, step_counts
from grownlines.lines.places import address_of, kind_at, point_at, step_at
from grownlines.lines.schemes import Scheme
from grownlines.visits.kinds import (coming, count_kinds, is_address_of, is_kind, kinds_of, visit_at, visits)

from tests.helpers import (BACK, DRAGON, FLAKE, FULL, GOSPER, LONG, MIXED, NEARLY, OVER, SCHEMES, THERE_AND_BACK,
                           UNEVEN, UNITS, VALUES, add, addresses_of_line, axiom_of, grow, in_turn, line_of,
                           orders_within, others, product, raised_by, same, sights_of, visits_of, within)


def is_scheme(value):
    return isinstance(value, Scheme)


def all_kinds(scheme):
    """All tuples that have the form of a kind."""
    turns = range(len(UNITS[scheme.lines[0][5:]]))
    inner = set(itertools.product(scheme.letters, scheme.letters, turns))
    return inner | {("", letter, 0) for letter in scheme.letters} | {(letter, "", 0) for letter in scheme.letters}


def kinds_by_lines(scheme):
    """The kinds of visits, order by order until no new one comes, from pairs of neighbouring steps alone."""
    line = axiom_of(scheme)
    met = {kind for kind, _, _ in sights_of(scheme, line)}
    while True:
        line = grow(scheme, line)
        new = {kind for kind, _, _ in sights_of(scheme, line)} - met
        if not new:
            return tuple(sorted(met))
        met |= new


class Forms(unittest.TestCase):
    def test_kinds(self):
        letters = ["", "a", "b", "c", "z", "ab", None, 1, True, ("a",)]
        turns = [-1, 0, 1, 3, 4, 5, 6, True, False, None, "0", 10 ** 400, (0,)]
        for scheme in SCHEMES:
            valid = all_kinds(scheme)
            for value in itertools.product(letters, letters, turns):
                expected = type(value[2]) is int and value in valid
                self.assertIs(is_kind(scheme, value), expected, value)
            for kind in valid:
                self.assertIs(is_kind(scheme, kind), True)
                for value in (list(kind), kind[:2], kind + (0,), (kind,), "".join(kind[:2]), {kind: kind}):
                    self.assertIs(is_kind(scheme, value), False)

    def test_values_of_every_kind(self):
        for scheme in SCHEMES:
            for value in VALUES:
                self.assertIs(is_kind(scheme, value), False)
                letter = isinstance(value, str) and value in scheme.letters
                self.assertIs(is_kind(scheme, (value, "a", 0)), letter or value == "")
                self.assertIs(is_kind(scheme, ("", value, 0)), letter)
                turn = within(0, len(scheme.grid) - 1)(value)
                self.assertIs(is_kind(scheme, ("a", "a", value)), turn)
                self.assertIs(is_kind(scheme, ("a", "", value)), turn and value == 0)


class Kinds(unittest.TestCase):
    def test_kinds_of_lines(self):
        for scheme in MIXED:
            if scheme not in (LONG, GOSPER):
                self.assertTrue(same(kinds_of(scheme), kinds_by_lines(scheme)))
        self.assertTrue(same(kinds_of(GOSPER), tuple(sorted(
            {kind for order in range(4) for kind, _, _ in sights_of(GOSPER, line_of(GOSPER, order))}))))

    def test_letters_that_are_not_used(self):
        self.assertNotIn("z", "".join(kind[0] + kind[1] for kind in kinds_of(UNEVEN)))
        scheme = Scheme.from_lines("grid square", "axiom b0", "rule a b0 a0", "rule b b0 b0")
        self.assertEqual(kinds_of(scheme), (("", "b", 0), ("b", "", 0), ("b", "b", 0)))

    def test_what_comes_from_the_visits_of_lines(self):
        for scheme, order, line in orders_within(MIXED, 60):
            name = scheme.grid.name
            growth = product(name, (1, 0), scheme.growth)
            expected = sights_of(scheme, grow(scheme, line))
            found = []
            for kind, direction, point in sights_of(scheme, line):
                place = product(name, point, growth)
                for own, turn, vector in coming(scheme, kind):
                    self.assertIn(turn, range(len(UNITS[name])))
                    way = (direction + turn) % len(UNITS[name])
                    found.append((own, way, add(place, in_turn(name, vector, direction))))
            self.assertTrue(same(found, expected))

    def test_what_comes_from_kinds_that_no_line_has(self):
        for scheme in SCHEMES[:5]:
            for kind in sorted(all_kinds(scheme)):
                triples = coming(scheme, kind)
                self.assertIs(type(triples), tuple)
                self.assertEqual(len(triples), 1 if kind[1] == "" else len(scheme[kind[1]]))
                before, after = triples[0][0][:2]
                self.assertEqual(before, kind[0] and scheme[kind[0]].row[-1][0])
                self.assertEqual(after, kind[1] and scheme[kind[1]].row[0][0])
                if kind[0] and kind[1]:
                    many = len(scheme.grid)
                    turn = scheme[kind[1]].row[0][1] + kind[2] - scheme[kind[0]].row[-1][1]
                    self.assertEqual(triples[0], ((before, after, turn % many), scheme[kind[1]].row[0][1], (0, 0)))
                else:
                    self.assertEqual(triples[0][0][2], 0)

    def test_visits(self):
        for scheme, order, line in orders_within(MIXED, 400):
            self.assertTrue(same(visits(scheme, order), tuple(sights_of(scheme, line))))

    def test_at_most_5000_visits(self):
        items = " ".join(["a0"] * 8)
        five = Scheme.from_lines("grid square", f"axiom {items}", "rule a a0 a0 a0 a0 a0")
        self.assertEqual(length_of(five, 4), 5000)
        self.assertEqual(raised_by(self, TooMany, visits, five, 4).limit, 5000)
        closed = Scheme.from_lines("grid square", "axiom a0 a0 a1 a1 a2 a2 a3 a3", "rule a a0 a0 a0 a0 a0")
        self.assertEqual(len(visits(closed, 4)), 5000)
        self.assertEqual(raised_by(self, TooMany, visits, closed, 5).limit, 5000)
        self.assertEqual(len(visits(NEARLY, 4)), 5000)
        self.assertEqual(raised_by(self, TooMany, visits, FULL, 4).limit, 5000)
        self.assertEqual(length_of(OVER, 4), 5001)
        self.assertEqual(raised_by(self, TooMany, visits, OVER, 4).limit, 5000)
        self.assertEqual(len(visits(DRAGON, 12)), 4097)
        for order in (13, 14, 200):
            self.assertEqual(raised_by(self, TooMany, visits, DRAGON, order).limit, 5000)


class Addresses(unittest.TestCase):
    def test_short_lines(self):
        for scheme, order, line in orders_within(MIXED, 60):
            sights = sights_of(scheme, line)
            addresses = addresses_of_line(scheme, order)
            self.assertEqual(len(sights), len(addresses))
            for address, sight in zip(addresses, sights):
                self.assertTrue(same(visit_at(scheme, order, address), sight))
                self.assertIs(is_address_of(scheme, order, address), True)
                self.assertIs(is_address_of(scheme, order + 1, address), False)
                raised_by(self, InvalidOperation, visit_at, scheme, order + 1, address)

    def test_values_near_addresses(self):
        for scheme, order in [(DRAGON, 0), (DRAGON, 2), (FLAKE, 1), (UNEVEN, 2), (THERE_AND_BACK, 2)]:
            addresses = set(addresses_of_line(scheme, order))
            for value in itertools.product(range(-1, 6), repeat=order + 1):
                self.check(scheme, order, value, value in addresses)
            for address in addresses:
                for value in (list(address), address + (0,), address[1:], (address,), tuple(map(str, address)),
                              tuple(map(bool, address)), address[:-1] + (10 ** 400,), address[:-1] + (None,)):
                    self.check(scheme, order, value, False)

    def check(self, scheme, order, value, valid):
        self.assertIs(is_address_of(scheme, order, value), valid, value)
        if not valid:
            raised_by(self, InvalidOperation, visit_at, scheme, order, value)

    def test_values_of_every_kind(self):
        for order in range(4):
            addresses = set(addresses_of_line(FLAKE, order))
            for value in VALUES:
                integers = isinstance(value, tuple) and all(type(part) is int for part in value)
                self.check(FLAKE, order, value, integers and value in addresses)

    def test_great_orders(self):
        draw = random.Random(3)
        for scheme in SCHEMES:
            for order in (200, 150, draw.randrange(20, 150)):
                length = length_of(scheme, order)
                numbers = [0, 1, length - 1] + [draw.randrange(length) for _ in range(4)]
                for number in numbers + ([] if scheme.is_closed else [length]):
                    kind, direction, point = visit_at(scheme, order, address_of(scheme, order, number))
                    self.assertEqual(kind, kind_at(scheme, order, number))
                    self.assertEqual(point, point_at(scheme, order, number))
                    self.assertEqual(direction, step_at(scheme, order, min(number, length - 1))[1])

    def test_order_20000(self):
        self.assertEqual(visit_at(BACK, 20000, (0,) * 20001), (("", "a", 0), 0, (0, 0)))
        end = visit_at(BACK, 20000, (1,) + (0,) * 20000)
        self.assertEqual(end[:2], (("a", "", 0), 0))
        self.assertTrue(end[2] == (1 << 20000, 0))
        # The item 3 of each rule begins at (1, 0): the number is the sum of the powers of the growth.
        self.assertTrue(visit_at(BACK, 20000, (0,) + (3,) * 20000)[2] == ((1 << 20000) - 1, 0))
        for scheme in (BACK, LONG):
            self.assertIs(is_address_of(scheme, 20000, (0,) * 20001), True)
            for value in ((0,) * 20000, (0,) * 20002, (0,) * 20000 + (12,), (0,) * 9000 + (12,) + (0,) * 11000):
                self.check(scheme, 20000, value, False)
            for order in (20001, 10 ** 399):
                for call in (is_address_of, visit_at):
                    self.assertEqual(raised_by(self, InvalidNumber, call, scheme, order, (0,) * 20002).value, order)

    def test_the_way_to_order_20000(self):
        # What is told of an order by the visit of the order before.
        draw = random.Random(8)
        numbers = (2,) + tuple(draw.randrange(3) for _ in range(20000))
        for order in (20000, 19999, 12345):
            address = numbers[:order + 1]
            kind, direction, point = visit_at(FLAKE, order, address)
            before = visit_at(FLAKE, order - 1, address[:-1])
            own, turn, vector = coming(FLAKE, before[0])[address[-1]]
            self.assertEqual((kind, direction), (own, (before[1] + turn) % 6))
            place = product("triangle", before[2], (3, 0))
            self.assertTrue(add(place, in_turn("triangle", vector, before[1])) == point)


class Counts(unittest.TestCase):
    def test_short_lines(self):
        for scheme, order, line in orders_within(MIXED, 400):
            kinds = [kind for kind, _, _ in sights_of(scheme, line)]
            expected = {kind: kinds.count(kind) for kind in sorted(set(kinds))}
            self.assertTrue(same(count_kinds(scheme, order), expected))

    def test_great_orders(self):
        for scheme in MIXED:
            for order in (200, 199, 77):
                counts = count_kinds(scheme, order)
                self.assertEqual(list(counts), sorted(counts))
                self.assertEqual(sum(counts.values()), length_of(scheme, order) + (not scheme.is_closed))
                self.assertTrue(all(many > 0 for many in counts.values()))
                following = {}
                for kind in counts:
                    for own, _, _ in coming(scheme, kind):
                        following[own] = following.get(own, 0) + counts[kind]
                if order < 200:
                    self.assertEqual(count_kinds(scheme, order + 1), following)
                steps = step_counts(scheme, order)
                for letter in scheme.letters:
                    ahead = sum(counts[kind] for kind in counts if kind[1] == letter)
                    self.assertEqual(ahead, sum(steps[step] for step in steps if step[0] == letter))


class Errors(unittest.TestCase):
    def test_what_is_no_scheme(self):
        for value in others(is_scheme):
            for call in (is_kind, coming, visits, count_kinds):
                raised_by(self, InvalidScheme, call, value, None)
            for call in (visit_at, is_address_of):
                raised_by(self, InvalidScheme, call, value, None, None)
            raised_by(self, InvalidScheme, kinds_of, value)

    def test_what_is_no_order(self):
        for value in others(within(0, 200)) + [-1, 201]:
            for call in (visits, count_kinds):
                self.assertIs(raised_by(self, InvalidNumber, call, DRAGON, value).value, value)
        for value in others(within(0, 20000)) + [-1, 20001]:
            for call in (visit_at, is_address_of):
                self.assertIs(raised_by(self, InvalidNumber, call, DRAGON, value, None).value, value)

    def test_what_is_no_kind(self):
        wrong = [("", "", 0), ("a", "c", 0), ("a", "", 1), ("", "b", 3), ("a", "b", 4), ("a", "b", -1),
                 ("a", "b", True), ["a", "b", 0], ("a", "b"), ("a", "b", 0, 0), "ab0"]
        for value in VALUES + wrong:
            raised_by(self, InvalidOperation, coming, DRAGON, value)


if __name__ == "__main__":
    unittest.main()
