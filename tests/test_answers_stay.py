"""Tables, papers and pictures that are asked most: each stand's order, sets that are judged, papers, and pictures."""

import functools
import random
import unittest

from grownlines.decide.papers import first_order, is_clear, is_paper, paper
from grownlines.decide.stands import coming_stands, first_stands, is_stand, reach, stand_of, stands_within
from grownlines.decide.tables import Table, is_closed_under
from grownlines.errors import InvalidOperation, InvalidStand, ParseError
from grownlines.lines.schemes import Scheme
from grownlines.text.pictures import picture, read_picture
from grownlines.visits.kinds import coming, is_kind, kinds_of, visits
from grownlines.visits.meetings import FAULTS

from tests.helpers import DRAGON, LEVY, fault_shown, line_of, norm, raised_by, same
from tests.test_known import FLOW
from tests.test_pictures import drawn, read_by_words, sets_of

WEDGE = Scheme.from_lines("grid triangle", "axiom a1 a1 a0", "rule a a0 a2 a0")
AROUND = Scheme.from_lines("grid square", "axiom a0 a1 a2 a3", "rule a a0 a0 a0 a0 a0 a0 a0 a0 a0 a0")
SCHEMES = (DRAGON, LEVY, FLOW, WEDGE)

# How many stands are there first at each order.
ORDERS = {
    DRAGON.lines: [1, 3, 9, 29, 95, 275, 526, 518, 199, 33, 8, 2],
    LEVY.lines: [1, 3, 8, 24, 74, 129, 225, 416, 590, 593, 501, 417, 275, 146, 78, 36, 16, 4],
    FLOW.lines: [1, 28, 830, 1828, 154], WEDGE.lines: [6, 41, 168, 414, 493, 110, 8, 1]}

# The papers of the three faults, None where the scheme is clear.
PAPERS = {
    DRAGON.lines: [("meets", (0, 0, 1, 1, 1), (0, 1, 0, 1, 1)), None, None],
    LEVY.lines: [("meets", (0, 0, 1, 1, 1), (0, 1, 0, 0, 1)), ("meets", (0, 0, 1, 1, 1), (0, 1, 0, 0, 0)),
                 ("meets", (0, 0, 1, 1, 1, 0), (0, 1, 0, 0, 1, 0))],
    FLOW.lines: [None, None, None], WEDGE.lines: [("meets", (0, 1, 1), (0, 2, 1)), None, None]}


@functools.cache
def table_of(number):
    return Table(SCHEMES[number])


def tables():
    return [(scheme, table_of(number)) for number, scheme in enumerate(SCHEMES)]


def near(scheme, found):
    return [stand for stand in found.values() if norm(scheme.grid.name, stand[3]) <= reach(scheme) ** 2]


def comes(scheme, seen):
    """All kinds and stands that come from a kind or a stand."""
    if len(seen) == 4:
        return near(scheme, coming_stands(scheme, seen))
    return [kind for kind, _, _ in coming(scheme, seen)] + near(scheme, stands_within(scheme, seen))


def orders_by_words(scheme):
    """The dict from all stands to the orders at which they are there first, one order after the other."""
    level = [kind for kind, _, _ in visits(scheme, 0)] + near(scheme, first_stands(scheme))
    orders = {}
    order = 0
    while level:
        new = [seen for seen in dict.fromkeys(level) if seen not in orders]
        orders.update(dict.fromkeys(new, order))
        level = [own for seen in new for own in comes(scheme, seen)]
        order += 1
    return {seen: orders[seen] for seen in orders if len(seen) == 4}


def with_member(members, member):
    return tuple(sorted(members + (member,)))


def without(members, member):
    return tuple(own for own in members if own != member)


def drawn_stand(scheme, draw):
    """A stand that is not far."""
    many = len(scheme.grid)
    letters = list(scheme.letters)
    kinds = list(kinds_of(scheme)) + [(draw.choice(letters), draw.choice(letters), draw.randrange(many))]
    size = reach(scheme)
    while True:
        vector = (draw.randrange(-size - 1, size + 2), draw.randrange(-size - 1, size + 2))
        if norm(scheme.grid.name, vector) <= size ** 2:
            return (draw.choice(kinds), draw.choice(kinds), draw.randrange(many), vector)


def other_forms(stand):
    """What is like a stand, but is none, or is none of those between which it stands."""
    kind, other, turn, vector = stand
    x, y = vector
    before, after, bend = kind
    return [
        list(stand), stand[:3], stand + (0,), (list(kind), other, turn, vector), (kind, list(other), turn, vector),
        (kind, other, turn, list(vector)), (kind, other, turn, (x,)), (kind, other, turn, (x, y, 0)),
        (kind, other, turn, None), (kind, other, None, vector), (None, other, turn, vector), (kind, None, turn, vector),
        (kind, other, turn, ([x], y)), (kind, other, turn, (x, {})), (kind, other, [turn], vector),
        (([before], after, bend), other, turn, vector), ((before, {}, bend), other, turn, vector),
        (kind, (before, after, [bend]), turn, vector), (kind, other, -1, vector), (kind, other, 6, vector),
        (kind[:2], other, turn, vector), (kind + (0,), other, turn, vector), ((), (), -1, vector), ((), (), (), ()),
        (None, None, None, None), (kind, other, turn, (10 ** 400, y)), (kind, other, turn, (x, 10 ** 6)),
        (("z", after, bend), other, turn, vector), (kind, ("", "", 0), turn, vector), (kind, other, turn, ("a", y)),
        (kind, other, turn, (DRAGON, y)), (kind, other, DRAGON, vector), ((DRAGON, after, bend), other, turn, vector),
        (kind, (before, DRAGON, bend), turn, vector), DRAGON, None, 0, "abcd", kind]


def truths(stand):
    """A stand with True or False in the place of each 1 or 0."""
    kind, other, turn, (x, y) = stand
    found = [(kind, other, bool(turn), (x, y)), (kind, other, turn, (bool(x), y)), (kind, other, turn, (x, bool(y))),
             (kind[:2] + (bool(kind[2]),), other, turn, (x, y)), (kind, other[:2] + (bool(other[2]),), turn, (x, y))]
    return [own for own in found if own == stand]


class Tables(unittest.TestCase):
    def test_the_order_of_each_stand(self):
        for scheme, table in tables():
            orders = orders_by_words(scheme)
            self.assertEqual(table.stands, tuple(sorted(orders)))
            self.assertEqual([table.order_of(stand) for stand in table.stands],
                             [orders[stand] for stand in table.stands])
            counted = list(orders.values())
            self.assertEqual([counted.count(order) for order in range(max(counted) + 1)], ORDERS[scheme.lines])
            self.assertEqual(len(table), sum(ORDERS[scheme.lines]))

    def test_pairs(self):
        draw = random.Random(1)
        for scheme, table in tables():
            for stand in draw.sample(table.stands, 120):
                one, other = table.pair_of(stand)
                self.assertLess(one, other)
                self.assertTrue(same(stand_of(scheme, table.order_of(stand), one, other), stand))

    def test_what_is_no_stand_of_a_table(self):
        draw = random.Random(2)
        for scheme, table in tables():
            known = {stand: True for stand in table.stands}
            for stand in draw.sample(table.stands, 40):
                self.assertIs(stand in table, True)
                for value in other_forms(stand) + truths(stand):
                    self.check_none(table, value)
            self.assertTrue(any(truths(stand) for stand in table.stands))
            kinds = 0
            for _ in range(400):
                stand = drawn_stand(scheme, draw)
                self.assertIs(stand in table, stand in known)
                if stand not in known:
                    self.check_none(table, stand)
                    kinds += stand[0] in table.kinds
            self.assertGreater(kinds, 20)

    def check_none(self, table, value):
        self.assertIs(value in table, False)
        raised_by(self, InvalidStand, table.order_of, value)
        raised_by(self, InvalidStand, table.pair_of, value)


class Judged(unittest.TestCase):
    def check(self, scheme, kinds, stands, expected, faults):
        """Whether sets are closed, and papers for all faults but these."""
        self.assertIs(is_closed_under(scheme, kinds, stands), expected)
        for fault in FAULTS:
            self.assertIs(is_paper(scheme, fault, ("clear", kinds, stands)), expected and fault not in faults)

    def refuse(self, scheme, kinds, stands):
        with self.assertRaises(InvalidOperation):
            is_closed_under(scheme, kinds, stands)
        self.assertIs(is_paper(scheme, "cross", ("clear", kinds, stands)), False)

    def wrong(self, table):
        return [fault for fault in FAULTS if table.wrong(fault)]

    def test_whole_tables(self):
        for scheme, table in tables():
            self.check(scheme, table.kinds, table.stands, True, self.wrong(table))
            self.assertEqual(self.wrong(table), [fault for fault in FAULTS if not is_clear(scheme, fault)])

    def test_one_left_out(self):
        draw = random.Random(3)
        for scheme, table in tables():
            for kind in table.kinds:
                self.check(scheme, without(table.kinds, kind), table.stands, False, [])
            for stand in draw.sample(table.stands, 60) + list(table.stands[:2]) + list(table.stands[-2:]):
                self.check(scheme, table.kinds, without(table.stands, stand), False, [])

    def test_one_put_in(self):
        draw = random.Random(4)
        closed = [0, 0]
        for scheme, table in tables():
            known = {seen: True for seen in table.kinds + table.stands}
            for _ in range(60):
                stand = drawn_stand(scheme, draw)
                if stand in known:
                    self.refuse(scheme, table.kinds, tuple(sorted(table.stands + (stand,))))
                    continue
                expected = all(own in known or own == stand for own in comes(scheme, stand))
                faults = self.wrong(table) + [fault for fault in FAULTS if fault_shown(scheme, stand, fault)]
                self.check(scheme, table.kinds, with_member(table.stands, stand), expected, faults)
                closed[expected] += 1
            for kind in [(one, other, turn) for one in ("", "a") for other in ("", "a") for turn in range(6)]:
                if is_kind(scheme, kind) and kind not in table.kinds:
                    expected = all(own in known or own == kind for own in comes(scheme, kind))
                    self.check(scheme, with_member(table.kinds, kind), table.stands, expected, self.wrong(table))
        self.assertGreater(min(closed), 30)

    def test_one_exchanged(self):
        draw = random.Random(5)
        for scheme, table in tables():
            for _ in range(30):
                stand = drawn_stand(scheme, draw)
                if stand not in table:
                    left = without(table.stands, draw.choice(table.stands))
                    self.check(scheme, table.kinds, with_member(left, stand), False, [])
            for kind in [("a", "a", turn) for turn in range(len(scheme.grid))]:
                if kind not in table.kinds:
                    left = without(table.kinds, draw.choice(table.kinds))
                    self.check(scheme, with_member(left, kind), table.stands, False, [])

    def test_other_forms(self):
        draw = random.Random(6)
        for scheme, table in tables():
            stands = table.stands
            for at in [0, 1, len(stands) - 1] + draw.sample(range(len(stands)), 5):
                for value in other_forms(stands[at]) + truths(stands[at]):
                    self.refuse(scheme, table.kinds, stands[:at] + (value,) + stands[at + 1:])
                    if at < 2:
                        self.refuse(scheme, table.kinds, (value,))
                self.refuse(scheme, table.kinds, stands[:at] + stands[at:at + 1] + stands[at:])
                self.refuse(scheme, table.kinds, stands[at:] + stands[:at] if at > 0 else stands[::-1])
            size = reach(scheme)
            kind = table.kinds[-1]
            self.refuse(scheme, table.kinds, with_member(stands, (kind, kind, 0, (size + 1, 0))))
            for kind in table.kinds:
                kinds = without(table.kinds, kind)
                for value in [list(kind), kind[:2], (kind[0], kind[1], 6), None]:
                    self.refuse(scheme, kinds + (value,), stands)
                if kind[2] < 2:
                    self.refuse(scheme, tuple(sorted(kinds + (kind[:2] + (bool(kind[2]),),))), stands)


class Papers(unittest.TestCase):
    def test_the_three_faults(self):
        for scheme, table in tables():
            for fault, told in zip(FAULTS, PAPERS[scheme.lines]):
                value = paper(scheme, fault)
                self.assertIs(is_paper(scheme, fault, value), True)
                self.assertTrue(same(value, told or ("clear", table.kinds, table.stands)))
                order = len(told[1]) - 1 if told else None
                self.assertEqual([first_order(scheme, fault), table.order_with(fault)], [order, order])
                if told:
                    stand = stand_of(scheme, order, told[1], told[2])
                    self.assertIs(is_stand(scheme, stand), True)
                    self.assertEqual(stand, min(own for own in table.wrong(fault) if table.order_of(own) == order))


class Pictures(unittest.TestCase):
    def test_whole_pictures(self):
        for scheme, order, rows in ((AROUND, 2, 201), (AROUND, 1, 21), (AROUND, 0, 3), (DRAGON, 8, None)):
            points, edges = sets_of(scheme, line_of(scheme, order))
            text = picture(scheme, order)
            self.assertEqual(text, drawn(points, edges))
            self.assertTrue(same(read_picture(text), (points, edges)))
            if rows:
                self.assertEqual(text.count("\n") + 1, rows)
                self.assertEqual(text.count("+"), 4 * 10 ** order)

    def test_changed_signs(self):
        draw = random.Random(7)
        seen = [0, 0]
        for scheme, order, many in ((AROUND, 2, 60), (AROUND, 1, 500), (DRAGON, 8, 500), (DRAGON, 5, 900)):
            text = picture(scheme, order)
            places = [at for at, sign in enumerate(text) if sign != " "]
            for _ in range(many):
                at = draw.choice(places) if draw.random() < 0.7 else draw.randrange(len(text) + 1)
                sign = draw.choice("+-| \nx")
                changed = draw.choice([text[:at] + sign + text[at + 1:], text[:at] + sign + text[at:],
                                       text[:at] + text[at + 1:]])
                expected = read_by_words(changed)
                if expected is None:
                    self.assertIsNone(raised_by(self, ParseError, read_picture, changed).number)
                else:
                    self.assertTrue(same(read_picture(changed), expected))
                seen[expected is not None] += 1
        self.assertGreater(min(seen), 100)

    def test_signs_that_are_exchanged(self):
        # An edge less, or a point without edges less, is a picture of its own.
        text = picture(AROUND, 1)
        points, edges = read_picture(text)
        self.assertEqual(read_picture(text.replace("+-+", "+ +", 1)), (points, tuple(
            edge for edge in edges if edge != ((0, 10), (1, 10)))))
        for wrong in (text + " ", text + "\n", "\n" + text, text.replace("|", "-"), text.replace("-", "|"),
                      text.replace("+", " ", 1), text.replace("\n", " \n", 1), text.replace("|", "\t|", 1), " " + text):
            self.assertIsNone(raised_by(self, ParseError, read_picture, wrong).number)


if __name__ == "__main__":
    unittest.main()
