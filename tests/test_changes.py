import itertools
import random
import unittest

from grownlines.decide.likeness import are_alike
from grownlines.decide.papers import first_order
from grownlines.errors import InvalidNumber, InvalidOperation, InvalidScheme, TooMany
from grownlines.lines.schemes import Scheme
from grownlines.use.changes import (begun_scheme, least_scheme, mirrored_scheme, powered, renamed_scheme,
                                    reversed_scheme, spared, turned_scheme)
from grownlines.visits.meetings import FAULTS, meetings

from tests.helpers import (BACK, DRAGON, FLAKE, GOSPER, LEVY, LONG, LOOP, MIXED, ROAD, STAR, THERE_AND_BACK, THREE, TWO,
                           UNEVEN, VALUES, axiom_of, line_of, others, points_of, raised_by, same, within)
from tests.test_tables import is_scheme, small

CLOSED = (FLAKE, TWO, THERE_AND_BACK)
TWINS = Scheme.from_lines("grid square", "axiom x0", "rule x z0 y1", "rule y z1 y0", "rule z x0 y1", "rule k k0 k1")


def orders_short(scheme, most=4, steps=3000):
    """Orders up to 4 of which the lines are short enough, with their lines."""
    for order in range(most + 1):
        line = line_of(scheme, order)
        if len(line) > steps:
            return
        yield order, line


def directions(line):
    return [direction for _, direction in line]


class Lines(unittest.TestCase):
    def compare(self, scheme, changed, change):
        """Whether the lines of the changed scheme are those of the scheme, changed one by one."""
        self.assertIsInstance(changed, Scheme)
        for order, line in orders_short(scheme):
            self.assertEqual(line_of(changed, order), change(line), (scheme.lines, changed.lines))

    def test_turned(self):
        for scheme in MIXED:
            many = len(scheme.grid)
            for turn in range(many):
                changed = turned_scheme(scheme, turn)
                self.compare(scheme, changed, lambda line: [(letter, (own + turn) % many) for letter, own in line])
                self.assertEqual(changed.lines[2:], scheme.lines[2:])
            self.assertEqual(turned_scheme(scheme, 0), scheme)

    def test_mirrored(self):
        for scheme in MIXED:
            many = len(scheme.grid)
            self.compare(scheme, mirrored_scheme(scheme),
                         lambda line: [(letter, -own % many) for letter, own in line])
            self.assertEqual(mirrored_scheme(mirrored_scheme(scheme)), scheme)

    def test_reversed(self):
        for scheme in MIXED:
            many = len(scheme.grid)
            changed = reversed_scheme(scheme)
            self.compare(scheme, changed, lambda line: [(letter, (own + many // 2) % many) for letter, own in line[::-1]])
            self.assertEqual(reversed_scheme(changed), scheme)
            for order, line in orders_short(scheme, 2):
                # The points are the same ones in the opposite order, moved to begin at (0, 0).
                points = points_of(scheme, line)
                moved = [(x - points[-1][0], y - points[-1][1]) for x, y in points[::-1]]
                self.assertEqual(points_of(changed, line_of(changed, order)), moved)

    def test_begun(self):
        for scheme in CLOSED:
            for index in range(len(scheme.axiom)):
                changed = begun_scheme(scheme, index)
                for order, line in orders_short(scheme):
                    ahead = sum(len(line_of(Scheme(scheme.grid, (item,), {letter: scheme[letter].row for letter
                                                                          in scheme}), order))
                                for item in scheme.axiom[:index])
                    self.assertEqual(line_of(changed, order), line[ahead:] + line[:ahead])
            self.assertEqual(begun_scheme(scheme, 0), scheme)

    def test_renamed(self):
        draw = random.Random(4)
        for scheme in MIXED:
            letters = dict(zip(scheme, draw.sample("abcdefghijklmnopqrstuvwxyz", len(scheme))))
            shuffled = dict(draw.sample(list(letters.items()), len(letters)))
            for names in (letters, shuffled, dict(zip(scheme, reversed(list(scheme))))):
                before = dict(names)
                self.compare(scheme, renamed_scheme(scheme, names),
                             lambda line: [(names[letter], own) for letter, own in line])
                self.assertEqual(names, before)
        self.assertEqual(renamed_scheme(DRAGON, {"a": "b", "b": "a"}).lines[1:],
                         ("axiom b0", "rule a b1 a0", "rule b b0 a1"))

    def test_powered(self):
        fitting = 0
        for scheme in MIXED:
            for power in (1, 2, 3):
                try:
                    changed = powered(scheme, power)
                except TooMany:
                    continue
                fitting += power > 1
                for order in range(4):
                    line = line_of(scheme, order * power)
                    if len(line) <= 5000:
                        self.assertEqual(line_of(changed, order), line)
                self.assertEqual(changed.letters, scheme.letters)
            self.assertEqual(powered(scheme, 1), scheme)
        self.assertGreater(fitting, 5)

    def test_spared(self):
        unused = 0
        for scheme in MIXED + (TWINS,):
            changed = spared(scheme)
            self.assertEqual(changed.letters, scheme.used)
            self.compare(scheme, changed, lambda line: line)
            unused += len(scheme.used) < len(scheme)
        self.assertGreater(unused, 2)
        self.assertEqual(spared(UNEVEN), UNEVEN.without("z"))
        self.assertEqual(spared(DRAGON), DRAGON)


def even_schemes(seed, many):
    """Even schemes of up to five letters, some of which have the same sequels."""
    draw = random.Random(seed)
    for _ in range(many):
        letters = draw.choice(["ab", "abc", "bcdef", "abcde"])
        turns = draw.choice([[0, 1], [1, 0, 0], [0, 0, 1]])
        rules = []
        for letter in letters:
            own = turns if draw.random() < 0.7 else turns[::-1]
            rules.append(f"rule {letter} " + " ".join(f"{draw.choice(letters)}{turn}" for turn in own))
        axiom = " ".join(f"{draw.choice(letters)}{draw.choice([0, 1])}" for _ in range(draw.choice([1, 3])))
        yield Scheme.from_lines("grid square", f"axiom {axiom}", *rules)


class Least(unittest.TestCase):
    def test_lines(self):
        merged = 0
        for scheme in list(even_schemes(5, 150)) + [TWINS, DRAGON, FLAKE, GOSPER, LEVY, LONG, THREE, LOOP, BACK]:
            least = least_scheme(scheme)
            for order, line in orders_short(scheme):
                self.assertEqual(directions(line_of(least, order)), directions(line))
            self.assertIs(are_alike(scheme, least), True)
            self.assertEqual(least.growth, scheme.growth)
            # Each letter is the least one of those with equal directions at all orders; lines have them all.
            classes = self.classes(scheme)
            names = {letter: min(own) for own in classes for letter in own}
            self.assertEqual(set(least), set(names.values()))
            self.assertEqual(least.axiom, tuple((names[letter], turn) for letter, turn in scheme.axiom))
            for letter in least:
                self.assertEqual(least[letter].row, tuple((names[own], turn) for own, turn in scheme[letter].row))
            self.assertEqual(least_scheme(least), least)
            merged += len(least) < len(scheme.used)
        self.assertGreater(merged, 20)

    def classes(self, scheme):
        """The letters that lines have, with those of equal sequels together."""
        rules = {letter: scheme[letter].row for letter in scheme}
        # Five letters differ at order 5 at the latest, if they do at all.
        order = 6 if len(scheme[scheme.letters[0]]) == 2 else 5 if len(scheme[scheme.letters[0]]) == 3 else 3
        found = {}
        for letter in scheme.used:
            own = Scheme(scheme.grid, ((letter, 0),), rules)
            found.setdefault(tuple(directions(line_of(own, order))), []).append(letter)
        return list(found.values())

    def test_fewer_letters_do_not_draw_alike(self):
        for scheme in even_schemes(6, 25):
            least = least_scheme(scheme)
            if len(least) != 2:
                continue
            items = len(scheme[scheme.letters[0]])
            for turns in itertools.product(range(4), repeat=items):
                axiom = tuple(("a", turn) for _, turn in scheme.axiom)
                try:
                    one = Scheme(scheme.grid, axiom, {"a": tuple(("a", turn) for turn in turns)})
                except InvalidScheme:
                    continue
                self.assertIs(are_alike(scheme, one), False)

    def test_known(self):
        self.assertEqual(least_scheme(TWINS).lines, ("grid square", "axiom x0", "rule x x0 y1", "rule y x1 y0"))
        self.assertEqual(least_scheme(LONG).lines[1], "axiom a0 a1 a2 a3 a4 a5 a0 a0 a0 a0 a0 a0")

    def test_uneven(self):
        unused = Scheme.from_lines("grid square", "axiom a0", "rule a a0 a1", "rule z a0 a1 a0 a2")
        for scheme in (UNEVEN, THERE_AND_BACK, unused):
            raised_by(self, InvalidOperation, least_scheme, scheme)
        self.assertEqual(least_scheme(spared(unused)), LEVY)


class Clear(unittest.TestCase):
    def test_changed_schemes_are_as_clear(self):
        for scheme, table in small()[:30]:
            if len(table) > 1200:
                continue
            many = len(scheme.grid)
            for changed in (turned_scheme(scheme, many - 1), mirrored_scheme(scheme), reversed_scheme(scheme)):
                for fault in FAULTS:
                    self.assertEqual(first_order(changed, fault), table.order_with(fault))

    def test_meetings_of_changed_schemes(self):
        for scheme in (DRAGON, BACK, STAR, LEVY):
            for fault in FAULTS:
                expected = list(meetings(scheme, 4, fault))
                self.assertEqual(list(meetings(mirrored_scheme(scheme), 4, fault)), expected)
                self.assertEqual(list(meetings(turned_scheme(scheme, 1), 4, fault)), expected)
                self.assertEqual(len(list(meetings(reversed_scheme(scheme), 4, fault))), len(expected))


class Errors(unittest.TestCase):
    def test_what_is_no_scheme(self):
        for value in others(is_scheme):
            for call in (mirrored_scheme, reversed_scheme, spared, least_scheme):
                raised_by(self, InvalidScheme, call, value)
            for call in (turned_scheme, begun_scheme, renamed_scheme, powered):
                raised_by(self, InvalidScheme, call, value, None)

    def test_turns(self):
        for scheme, most in ((DRAGON, 3), (FLAKE, 5)):
            for value in others(within(0, most)) + [-1, most + 1]:
                self.assertIs(raised_by(self, InvalidNumber, turned_scheme, scheme, value).value, value)

    def test_indexes(self):
        for value in others(within(0, 2)) + [-1, 3]:
            self.assertIs(raised_by(self, InvalidNumber, begun_scheme, FLAKE, value).value, value)
            # An open line comes first.
            raised_by(self, InvalidOperation, begun_scheme, DRAGON, value)
        raised_by(self, InvalidOperation, begun_scheme, ROAD, 0)

    def test_renamings(self):
        for value in VALUES + [{"a": "x"}, {"a": "x", "b": "x"}, {"a": "x", "b": "y", "c": "z"}, {"a": "x", "c": "y"},
                               {"a": "x", "b": "xy"}, {"a": "x", "b": 1}, {"a": "x", "b": ["y"]}, {"a": "x", "b": "Y"},
                               [("a", "x"), ("b", "y")], (("a", "x"), ("b", "y")), {"a": "x", "b": None},
                               {"a": "x", 1: "y"}, {"a": "x", "b": ""}]:
            raised_by(self, InvalidOperation, renamed_scheme, DRAGON, value)

    def test_powers(self):
        for value in others(within(1, 10 ** 400 - 1)) + [0, -1, -10 ** 399]:
            self.assertIs(raised_by(self, InvalidNumber, powered, LONG, value).value, value)
        for scheme, power in [(DRAGON, 4), (DRAGON, 10 ** 399), (LEVY, 12), (FLAKE, 2), (LONG, 2), (UNEVEN, 3),
                              (GOSPER, 2), (ROAD, 200), (ROAD, 201), (ROAD, 10 ** 400 - 1)]:
            self.assertEqual(raised_by(self, TooMany, powered, scheme, power).limit, 12)
        # A letter that no line has counts, too.
        unused = Scheme.from_lines("grid square", "axiom a0", "rule a a0 a1", "rule z z0 z1 z0 z2")
        self.assertEqual(raised_by(self, TooMany, powered, unused, 2).limit, 12)
        self.assertTrue(same(powered(spared(unused), 3).axiom, LEVY.axiom))

    def test_nothing_is_changed(self):
        for scheme in (DRAGON, FLAKE, UNEVEN):
            before = scheme.lines
            for call, *rest in [(turned_scheme, 1), (mirrored_scheme,), (reversed_scheme,), (powered, 1), (spared,)]:
                self.assertEqual(call(scheme, *rest), call(Scheme.from_lines(*before), *rest))
            self.assertEqual(scheme.lines, before)
            self.assertEqual(line_of(scheme, 0), axiom_of(scheme))


if __name__ == "__main__":
    unittest.main()
