"""Plans with which searches go on, and ways in which sets are judged: whichever is taken, the answer is the same."""

import unittest
from unittest import mock

from grownlines.decide.circles import bounds_of, circle_of
from grownlines.decide.codes import Codes
from grownlines.decide.nearness import Nearness
from grownlines.decide.plans import DirectPlan, LandingPlan, RowPlan
from grownlines.decide.searches import search
from grownlines.decide.stands import reach
from grownlines.decide.tables import Table, is_closed_under
from grownlines.errors import TooMany
from grownlines.lines.schemes import Scheme
from grownlines.visits.kinds import children_from, first_visits

from tests.helpers import BOTH, DRAGON, FLAKE, MIXED, UNITS, add, in_turn, norm, product, raised_by, random_schemes
from tests.test_tables import tabled

# Six letters that follow one another, with two items each: too many stands.
RING = Scheme.from_lines("grid square", "axiom a0", *[f"rule {one} {other}0 {one}1"
                                                       for one, other in zip("abcdef", "bcdefa")])
SMALL = [scheme for scheme, table in tabled() if len(table) < 5000]


def codes_of(scheme):
    kinds = [kind for kind, _, _ in first_visits(scheme)]
    return Codes(scheme, Nearness(scheme), children_from(scheme, kinds))


class Plans(unittest.TestCase):
    def followed(self, scheme, plan):
        """What a plan finds, order by order, part by part."""
        codes = codes_of(scheme)
        own = plan(codes)
        origins = {code: None for code in codes.first_codes(first_visits(scheme))}
        levels = [list(origins)]
        while levels[-1]:
            half = len(levels[-1]) // 2
            levels.append(own.following(origins, levels[-1][:half]) + own.following(origins, levels[-1][half:]))
        return (list(origins.items()), levels, sorted(own.pairs()))

    def test_all_plans_find_the_same(self):
        seen = 0
        for scheme in SMALL:
            found = self.followed(scheme, RowPlan)
            self.assertEqual(found, self.followed(scheme, LandingPlan))
            self.assertEqual(found, self.followed(scheme, DirectPlan))
            codes = codes_of(scheme)
            origins, levels, pairs = search(codes, codes.first_codes(first_visits(scheme)), 20000, {}, None)
            self.assertEqual(found, (list(origins.items()), levels, sorted(pairs)))
            self.assertEqual(sorted({code // codes.size for code in origins if code >= 0}), found[2])
            seen += 1
        self.assertGreater(seen, 20)

    def test_too_many(self):
        self.assertEqual(raised_by(self, TooMany, Table, RING).limit, 20000)
        for scheme in (DRAGON, FLAKE):
            many = len(Table(scheme))
            with mock.patch("grownlines.decide.tables.MAX_TABLE", many):
                self.assertEqual(len(Table(scheme)), many)
            with mock.patch("grownlines.decide.tables.MAX_TABLE", many - 1):
                self.assertEqual(raised_by(self, TooMany, Table, scheme).limit, many - 1)


class Bounds(unittest.TestCase):
    def test_no_vector_is_left_out(self):
        far = 0
        for scheme in list(MIXED) + random_schemes(8, 60):
            codes = codes_of(scheme)
            shapes = codes.nearness.shapes()
            for families in range(len({tuple(row[1:] for row in own) for own in codes.children}) ** 2):
                for turn in range(len(scheme.grid)):
                    block = codes.block(families, turn)
                    often, right, up, most = codes.bounds(families, turn)
                    for place, (x, y, own, _) in enumerate(shapes):
                        if often * own + right * x + up * y > most:
                            self.assertEqual(codes.row_in(block, place), [])
                            far += 1
        self.assertGreater(far, 1000)

    def test_circles(self):
        ends = [(0, 0), (3, 1), (-1, 4), (2, -2)]
        others = [(0, 0), (1, 0), (1, 1), (5, -2), (0, 3)]
        for grid in BOTH:
            name = grid.name
            for growth in ((1, 1), (2, 1), (-3, 2)):
                for turn in range(len(UNITS[name])):
                    often, right, up, most = bounds_of(grid, growth, 4, circle_of(grid, ends), circle_of(grid, others), turn)
                    kept = [0, 0]
                    for vector in [(x, y) for x in range(-14, 15) for y in range(-14, 15)]:
                        place = product(name, vector, growth)
                        near = [1 for one in ends for other in others if norm(name, add(
                            add(place, in_turn(name, other, turn)), (-one[0], -one[1]))) <= 16]
                        inside = often * norm(name, place) + right * vector[0] + up * vector[1] <= most
                        self.assertTrue(inside or not near)
                        kept[inside] += 1
                    # Most of what is far is told to be.
                    self.assertGreater(kept[0], kept[1])


class Closed(unittest.TestCase):
    def test_both_ways(self):
        for scheme in SMALL[:16]:
            table = Table(scheme)
            step = len(table) // 9 + 1
            sets = [(table.kinds, table.stands), (table.kinds[1:], table.stands), (table.kinds, ())]
            sets += [(table.kinds, table.stands[:at] + table.stands[at + 1:]) for at in range(0, len(table), step)]
            for kinds, stands in sets:
                told = []
                for few, many in ((16, 400), (1000, 0), (0, 0)):
                    with mock.patch("grownlines.decide.closed._FEW", few):
                        with mock.patch("grownlines.decide.closed._MANY", many):
                            told.append(is_closed_under(scheme, kinds, stands))
                self.assertEqual(told, [stands == table.stands and kinds == table.kinds] * 3)

    def test_near_vectors(self):
        for scheme in MIXED:
            nearness = Nearness(scheme)
            size = reach(scheme)
            every = [(x, y) for x in range(-2 * size, 2 * size + 1) for y in range(-2 * size, 2 * size + 1)]
            self.assertEqual(nearness.points, [point for point in every if norm(scheme.grid.name, point) <= size ** 2])


if __name__ == "__main__":
    unittest.main()
