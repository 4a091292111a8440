import decimal
import itertools
import random
import unittest

from grownlines.decide.stands import (coming_stands, first_stands, is_far, is_shown, is_stand, reach, stand_of,
                                      stands_within)
from grownlines.errors import InvalidNumber, InvalidOperation, InvalidScheme, InvalidStand
from grownlines.lines.grown import length_of
from grownlines.lines.places import address_of
from grownlines.lines.schemes import Scheme
from grownlines.visits.kinds import coming, kinds_of, visit_at
from grownlines.visits.meetings import FAULTS

from tests.helpers import (DRAGON, FLAKE, GOSPER, LONG, MIXED, SCHEMES, STAR, THERE_AND_BACK, TWO, UNEVEN, UNITS,
                           VALUES, add, addresses_of_line, axiom_of, fault_shown, faulty_pairs, grow, in_turn,
                           line_of, norm, orders_within, others, points_of, product, raised_by, same, sights_of,
                           stand_between, within)

SEEN = (("a", "b", 3), ("a", "b", 3), 2, (0, 0))


def is_scheme(value):
    return isinstance(value, Scheme)


def greatest_start(scheme):
    """The greatest norm of a point at which a step of a rule begins, from the texts of the rules."""
    name = scheme.lines[0][5:]
    found = []
    for line in scheme.lines[2:]:
        steps = [(word[0], int(word[1:])) for word in line.split(" ")[2:]]
        found += [norm(name, point) for point in points_of(scheme, steps)[:-1]]
    return max(found)


def drawn_stands(scheme, many, seed):
    """Tuples with the form of a stand, with near and far vectors."""
    draw = random.Random(seed)
    kinds = list(kinds_of(scheme)) + [("", "a", 0), ("a", "", 0), ("a", "a", len(scheme.grid) - 1)]
    size = reach(scheme) + 2
    for _ in range(many):
        vector = (draw.randrange(-size, size + 1), draw.randrange(-size, size + 1))
        vector = draw.choice([vector, (0, 0), (1, 0)])
        yield (draw.choice(kinds), draw.choice(kinds), draw.randrange(len(scheme.grid)), vector)


class Reaches(unittest.TestCase):
    def test_against_the_roots(self):
        with decimal.localcontext() as context:
            context.prec = 60
            for scheme in MIXED:
                root = decimal.Decimal(norm(scheme.grid.name, scheme.growth)).sqrt()
                twice = 2 * decimal.Decimal(greatest_start(scheme)).sqrt()
                # Where both roots are whole, both sides are exact; else they are not equal.
                expected = next(own for own in itertools.count(1) if (own - 1) * (root - 1) >= twice)
                self.assertTrue(same(reach(scheme), expected), scheme.lines)

    def test_known_reaches(self):
        self.assertEqual([reach(DRAGON), reach(FLAKE)], [6, 3])
        # Whole roots: (R - 1) * (2 - 1) is at least 2 * 1 from R = 3 on, and 2 * 2 from R = 5 on.
        self.assertEqual(reach(Scheme.from_lines("grid square", "axiom a0", "rule a a0 a0")), 3)
        self.assertEqual(reach(Scheme.from_lines("grid square", "axiom a0", "rule a a0 a0 a2 a0")), 5)
        # A letter that no line has counts as well.
        self.assertEqual(reach(Scheme.from_lines("grid square", "axiom a0", "rule a a0 a0", "rule b a0 a0 a0 a2")), 7)
        # Far out and back: the norm 25, and the growth of norm 2.
        wide = Scheme.from_lines("grid square", "axiom a0", "rule a a0 a0 a0 a0 a0 a1 a2 a2 a2 a2")
        self.assertEqual(reach(wide), 26)


class Forms(unittest.TestCase):
    def test_values_near_stands(self):
        for scheme in SCHEMES:
            for stand in drawn_stands(scheme, 30, 1):
                kind, other, turn, vector = stand
                self.check(scheme, stand, True)
                for value in [list(stand), stand[:3], stand + (0,), (kind, other, vector, turn),
                              (list(kind), other, turn, vector), (kind, other, turn, list(vector)),
                              (kind, other, len(scheme.grid), vector), (kind, other, -1, vector),
                              (kind, other, bool(turn), vector), (kind, other, turn, (vector[0], bool(vector[1]))),
                              (kind, ("", "", 0), turn, vector), (("q", "a", 0), other, turn, vector),
                              (kind, ("a", "", 1), turn, vector), (kind, other, turn, vector[:1]),
                              (kind, other, turn, (0, 10 ** 400)), (kind, other, None, vector)]:
                    self.check(scheme, value, False)
                self.check(scheme, (kind, other, turn, (10 ** 400 - 1, 1 - 10 ** 400)), True)

    def check(self, scheme, value, valid):
        self.assertIs(is_stand(scheme, value), valid, value)
        if not valid:
            raised_by(self, InvalidStand, is_far, scheme, value)
            raised_by(self, InvalidStand, is_shown, scheme, value, None)
            raised_by(self, InvalidStand, coming_stands, scheme, value)

    def test_values_of_every_kind(self):
        kind = ("a", "b", 0)
        for value in VALUES:
            self.check(DRAGON, value, False)
            for at in (0, 1):
                self.check(DRAGON, SEEN[:at] + (value,) + SEEN[at + 1:], False)
            self.check(DRAGON, (kind, kind, value, (0, 0)), within(0, 3)(value))
            integers = isinstance(value, tuple) and len(value) == 2 and all(
                type(part) is int and abs(part) < 10 ** 400 for part in value)
            self.check(DRAGON, (kind, kind, 0, value), integers)


class Stands(unittest.TestCase):
    def test_stands_of_pairs_of_visits(self):
        for scheme, order, line in orders_within(MIXED, 40):
            sights = sights_of(scheme, line)
            addresses = addresses_of_line(scheme, order)
            for one, other in itertools.combinations(range(len(sights)), 2):
                expected = stand_between(scheme.grid.name, sights[one], sights[other])
                self.assertTrue(same(stand_of(scheme, order, addresses[one], addresses[other]), expected))
                for wrong in [(other, one), (one, one)]:
                    raised_by(self, InvalidOperation, stand_of, scheme, order, *[addresses[at] for at in wrong])

    def test_stands_of_great_orders(self):
        draw = random.Random(9)
        for scheme in SCHEMES:
            length = length_of(scheme, 200)
            one, other = sorted([draw.randrange(length // 2), length // 2 + draw.randrange(length // 2)])
            pair = [address_of(scheme, 200, number) for number in (one, other)]
            expected = stand_between(scheme.grid.name, *[visit_at(scheme, 200, address) for address in pair])
            self.assertEqual(stand_of(scheme, 200, *pair), expected)
        pair = ((0,) * 20000 + (1,), (0,) * 20000 + (2,))
        self.assertEqual(stand_of(FLAKE, 20000, *pair), (("a", "a", 1), ("a", "a", 4), 4, (1, 0)))
        self.assertEqual(stand_of(FLAKE, 0, (0,), (1,)), (("a", "a", 4), ("a", "a", 4), 4, (1, 0)))

    def test_first_stands(self):
        for scheme in MIXED:
            sights = sights_of(scheme, axiom_of(scheme))
            expected = {(one, other): stand_between(scheme.grid.name, sights[one], sights[other])
                        for one, other in itertools.combinations(range(len(sights)), 2)}
            self.assertTrue(same(first_stands(scheme), expected))

    def test_stands_within(self):
        for scheme in MIXED:
            for kind in kinds_of(scheme):
                sights = [(own, turn, vector) for own, turn, vector in coming(scheme, kind)]
                expected = {(one, other): stand_between(scheme.grid.name, sights[one], sights[other])
                            for one, other in itertools.combinations(range(len(sights)), 2)}
                self.assertTrue(same(stands_within(scheme, kind), expected))

    def test_what_comes_from_visits_of_lines(self):
        for scheme, order, line in orders_within(MIXED, 12):
            name = scheme.grid.name
            following = sights_of(scheme, grow(scheme, line))
            above = addresses_of_line(scheme, order + 1)
            groups = {}
            for address, sight in zip(above, following):
                groups.setdefault(address[:-1], []).append(sight)
            sights = sights_of(scheme, line)
            addresses = addresses_of_line(scheme, order)
            for one, other in itertools.combinations(range(len(sights)), 2):
                stand = stand_between(name, sights[one], sights[other])
                expected = {(i, j): stand_between(name, first, second)
                            for i, first in enumerate(groups[addresses[one]])
                            for j, second in enumerate(groups[addresses[other]])}
                self.assertTrue(same(coming_stands(scheme, stand), expected))

    def test_what_comes_from_drawn_stands(self):
        for scheme in SCHEMES[:5]:
            name = scheme.grid.name
            for stand in drawn_stands(scheme, 40, 2):
                kind, other, turn, vector = stand
                place = product(name, vector, scheme.growth)
                ones = coming(scheme, kind)
                seconds = [(own, turn + more, add(place, in_turn(name, start, turn)))
                           for own, more, start in coming(scheme, other)]
                expected = {(i, j): stand_between(name, one, second) for i, one in enumerate(ones)
                            for j, second in enumerate(seconds)}
                self.assertTrue(same(coming_stands(scheme, stand), expected))

    def test_great_vectors(self):
        great = 10 ** 400 - 1
        stand = (("a", "b", 3), ("a", "b", 3), 2, (great, -great))
        self.assertIs(is_far(DRAGON, stand), True)
        self.assertEqual(coming_stands(DRAGON, stand)[(0, 0)][3], (0, -2 * great))
        self.assertEqual([is_shown(DRAGON, stand, fault) for fault in FAULTS], [False] * 3)


class FarStands(unittest.TestCase):
    def test_at_the_bound(self):
        for scheme in MIXED:
            own = reach(scheme)
            kind = kinds_of(scheme)[0]
            for x in range(-own - 3, own + 4):
                for y in range(-own - 3, own + 4):
                    expected = norm(scheme.grid.name, (x, y)) > own * own
                    self.assertIs(is_far(scheme, (kind, kind, 0, (x, y))), expected)

    def test_what_comes_from_far_stands_is_far(self):
        draw = random.Random(3)
        for scheme in MIXED:
            kinds = kinds_of(scheme)
            own = reach(scheme)
            for x, y in itertools.product(range(-own - 2, own + 3), repeat=2):
                if own * own < norm(scheme.grid.name, (x, y)) <= (own + 1) ** 2:
                    stand = (draw.choice(kinds), draw.choice(kinds), draw.randrange(len(scheme.grid)), (x, y))
                    for following in coming_stands(scheme, stand).values():
                        self.assertGreater(norm(scheme.grid.name, following[3]), own * own)
                    break

    def test_no_faults_come_from_far_stands(self):
        for scheme in (DRAGON, FLAKE, UNEVEN, THERE_AND_BACK):
            addresses = addresses_of_line(scheme, 4)
            sights = [sights_of(scheme, line_of(scheme, order)) for order in range(5)]
            places = [{address: sight for address, sight in zip(addresses_of_line(scheme, order), sights[order])}
                      for order in range(5)]
            line = line_of(scheme, 4)
            for fault in FAULTS:
                for one, other in faulty_pairs(scheme, line, fault)[:200]:
                    for order in range(4):
                        pair = [addresses[number][:order + 1] for number in (one, other)]
                        if pair[0] != pair[1]:
                            stand = stand_between(scheme.grid.name, *[places[order][address] for address in pair])
                            self.assertIs(is_far(scheme, stand), False)


class Shown(unittest.TestCase):
    def test_drawn_stands(self):
        seen = {fault: [0, 0] for fault in FAULTS}
        for scheme in MIXED:
            for stand in drawn_stands(scheme, 150, 5):
                for fault in FAULTS:
                    expected = fault_shown(scheme, stand, fault)
                    self.assertIs(is_shown(scheme, stand, fault), expected, (stand, fault))
                    seen[fault][expected] += 1
        self.assertGreater(min(min(pair) for pair in seen.values()), 20)

    def test_pairs_of_visits_of_lines(self):
        for scheme, order, line in orders_within(MIXED, 40):
            sights = sights_of(scheme, line)
            for fault in FAULTS:
                pairs = faulty_pairs(scheme, line, fault)
                for one, other in itertools.combinations(range(len(sights)), 2):
                    stand = stand_between(scheme.grid.name, sights[one], sights[other])
                    self.assertIs(is_shown(scheme, stand, fault), (one, other) in pairs)

    def test_steps_that_are_missing(self):
        for kind, other, expected in [
                (("", "a", 0), ("a", "a", 2), [True, False, False]), (("", "a", 0), ("a", "a", 0), [True, True, False]),
                (("a", "", 0), ("a", "a", 0), [True, False, False]),
                (("a", "a", 0), ("a", "", 0), [True, False, False])]:
            stand = (kind, other, 0 if expected[1] or "" in (kind[1], other[1]) else 1, (0, 0))
            self.assertEqual([is_shown(DRAGON, stand, fault) for fault in FAULTS], expected)
        # Ways that cross at a right angle, and the same ways if one of them begins or ends there.
        for kind, expected in [(("a", "a", 0), True), (("", "a", 0), False), (("a", "", 0), False)]:
            for stand in [(kind, ("b", "b", 0), 1, (0, 0)), (("b", "b", 0), kind, 3, (0, 0))]:
                self.assertIs(is_shown(DRAGON, stand, "cross"), expected)

    def test_closed_lines_of_two_steps(self):
        self.assertEqual([is_shown(TWO, first_stands(TWO)[(0, 1)], fault) for fault in FAULTS], [False, True, False])
        shown = [is_shown(STAR, stand, "cross") for stand in first_stands(STAR).values()]
        self.assertEqual(sum(shown), len(faulty_pairs(STAR, axiom_of(STAR), "cross")))


class Errors(unittest.TestCase):
    def test_what_is_no_scheme(self):
        for value in others(is_scheme):
            for call in (reach, first_stands):
                raised_by(self, InvalidScheme, call, value)
            for call in (is_stand, is_far, stands_within, coming_stands):
                raised_by(self, InvalidScheme, call, value, None)
            raised_by(self, InvalidScheme, is_shown, value, None, None)
            raised_by(self, InvalidScheme, stand_of, value, None, None, None)

    def test_stand_of(self):
        for value in others(within(0, 20000)) + [-1, 20001]:
            self.assertIs(raised_by(self, InvalidNumber, stand_of, DRAGON, value, None, None).value, value)
        for value in VALUES + [(0,), (0, 2), (2, 0), (1, 1), [0, 1], (0, True), (0, 0, 0)]:
            raised_by(self, InvalidOperation, stand_of, DRAGON, 1, value, (1, 0))
            raised_by(self, InvalidOperation, stand_of, DRAGON, 1, (0, 0), value)
        self.assertTrue(is_stand(DRAGON, stand_of(DRAGON, 1, (0, 0), (1, 0))))

    def test_what_is_no_kind(self):
        for value in VALUES + [("", "", 0), ("a", "c", 0), ("a", "", 1), ("a", "b", 4), ["a", "b", 0]]:
            raised_by(self, InvalidOperation, stands_within, DRAGON, value)

    def test_what_is_no_fault(self):
        for value in others() + ["points", ("point",)]:
            raised_by(self, InvalidOperation, is_shown, DRAGON, SEEN, value)

    def test_long_axioms(self):
        self.assertEqual(len(first_stands(LONG)), 13 * 12 // 2)
        self.assertEqual(len(first_stands(GOSPER)), 1)
        self.assertEqual(list(first_stands(LONG)), sorted(first_stands(LONG)))
        self.assertEqual(len(UNITS["triangle"]), len(LONG.grid))


if __name__ == "__main__":
    unittest.main()
