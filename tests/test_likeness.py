import random
import unittest

from grownlines.decide.likeness import (agreement, are_alike, is_likeness_paper, likeness_paper, parting, turn_between)
from grownlines.errors import InvalidNumber, InvalidOperation, InvalidScheme
from grownlines.lines.grown import length_of
from grownlines.lines.places import step_at
from grownlines.lines.schemes import Scheme

from tests.helpers import (DRAGON, FLAKE, LEVY, LONG, ROAD, UNEVEN, VALUES, axiom_of, grow, line_of, others, raised_by,
                           same, within)
from tests.test_tables import is_scheme

SAME = Scheme.from_lines("grid square", "axiom q1", "rule p q1 p0", "rule q q0 p1")
# As DRAGON, but its letters have other names, and one of them stands twice.
TWINS = Scheme.from_lines("grid square", "axiom x0", "rule x z0 y1", "rule y z1 y0", "rule z x0 y1", "rule k k0 k1")
# The letters follow one another, and the last one is not as the other ones.
LATE = Scheme.from_lines("grid square", "axiom a0 a1", "rule a a0 b1", "rule b b0 c1", "rule c c0 d1", "rule d d0 e1",
                         "rule e e0 f1", "rule f f1 f0")
NEVER = Scheme.from_lines("grid square", "axiom a0 a1", "rule a a0 a1")
LONGER = Scheme.from_lines("grid square", "axiom a0 a1 a1 a0", "rule a a0 a1")
BENT = Scheme.from_lines("grid square", "axiom a0 a2 a1 a0", "rule a a0 a1")
UNLIKE = (FLAKE, ROAD, UNEVEN, LONG)


def directions(scheme, order):
    return [direction for _, direction in line_of(scheme, order)]


def common(one, other):
    """How many first members of two lists are equal."""
    found = 0
    for left, right in zip(one, other):
        if left != right:
            break
        found += 1
    return found


def drawn_pairs(seed, many):
    """Pairs of schemes with one grid and equally many items, many of them with lines that are equal for long."""
    draw = random.Random(seed)
    for _ in range(many):
        name, half = draw.choice([("square", 2), ("triangle", 3)])
        items = draw.choice([2, 3])
        turns = [draw.choice([0, 1, half + 1]) for _ in range(items)]
        axiom = [draw.choice([0, 0, 1, 2]) for _ in range(draw.choice([1, 2, 4]))]
        pair = []
        for letters in (draw.choice(["a", "ab", "abc"]), draw.choice(["a", "xy", "abcd"])):
            rules = []
            for letter in letters:
                own = turns if draw.random() < 0.8 else draw.sample(turns, items)
                rules.append(f"rule {letter} " + " ".join(f"{draw.choice(letters)}{turn}" for turn in own))
            more = axiom + draw.choice([[], [], [], [1], [0, 1]])
            if draw.random() < 0.1:
                more[-1] = draw.randrange(2 * half)
            first = "axiom " + " ".join(f"{draw.choice(letters)}{turn}" for turn in more)
            try:
                pair.append(Scheme.from_lines(f"grid {name}", first, *rules))
            except ValueError:
                break
        if len(pair) == 2:
            yield tuple(pair)


PAIRS = tuple(drawn_pairs(3, 250)) + (
    (DRAGON, LEVY), (DRAGON, SAME), (DRAGON, TWINS), (LATE, NEVER), (LEVY, LEVY), (NEVER, LONGER), (NEVER, BENT),
    (LATE, LONGER), (TWINS, SAME), (LEVY, LONGER))


def orders_of_lines(one, other, most):
    """Orders with the directions of both lines, as long as these have at most so many steps."""
    order = 0
    pair = [axiom_of(one), axiom_of(other)]
    while max(len(line) for line in pair) <= most:
        yield order, [[direction for _, direction in line] for line in pair]
        pair = [grow(one, pair[0]), grow(other, pair[1])]
        order += 1


class Lines(unittest.TestCase):
    def test_drawn_lines(self):
        kinds = {"alike": 0, "late": 0, "first": 0, "shorter": 0}
        for one, other in PAIRS:
            found = None
            for order, (left, right) in orders_of_lines(one, other, 600):
                number = common(left, right)
                self.assertTrue(same(agreement(one, other, order), number))
                self.assertEqual(agreement(other, one, order), number)
                if left != right and found is None:
                    found = (order, number)
                    kinds["shorter"] += number == min(len(left), len(right))
            self.check(one, other, found)
            kinds["alike" if found is None else "late" if found[0] > 1 else "first"] += 1
        self.assertGreater(min(kinds.values()), 5)

    def check(self, one, other, found):
        for pair in ((one, other), (other, one)):
            told = parting(*pair)
            self.assertIs(are_alike(*pair), told is None)
            if found is not None:
                self.assertTrue(same(told, found))
            elif told is not None:
                self.assertGreater(told[0], 5)

    def test_late_partings(self):
        # The last letter comes at order 5, behind the first steps of all orders, and differs at the next one.
        found = None
        for order, (left, right) in orders_of_lines(LATE, NEVER, 5000):
            if left != right and found is None:
                found = (order, common(left, right))
        self.assertEqual(parting(LATE, NEVER), found)
        self.assertEqual(found[0], 6)
        self.assertEqual(agreement(LATE, NEVER, 5), 64)
        self.assertIsNone(parting(DRAGON, TWINS))
        self.assertIs(are_alike(TWINS, DRAGON), True)

    def test_great_orders(self):
        self.assertEqual(agreement(LEVY, LEVY, 200), 2 ** 200)
        self.assertEqual(agreement(NEVER, LONGER, 200), 2 ** 201)
        self.assertEqual(agreement(NEVER, BENT, 200), 2 ** 200)
        self.assertEqual(agreement(LONG, LONG, 200), 12 ** 201)
        # Behind equal first steps lines part somewhere: at the told number, and not ahead of it.
        one, other = DRAGON.with_line("axiom a0 a1 b2"), DRAGON.with_line("axiom a0 b1")
        for pair in ((LATE, NEVER), (one, other), (other, one), (one, SAME.with_line("axiom q0"))):
            for order in range(0, 201, 8):
                number = agreement(*pair, order)
                ahead = [step_at(scheme, order, number - 1)[1] for scheme in pair] if number else [0, 0]
                self.assertEqual(ahead[0], ahead[1])
                if number < min(length_of(scheme, order) for scheme in pair):
                    there = [step_at(scheme, order, number)[1] for scheme in pair]
                    self.assertNotEqual(there[0], there[1])
        self.assertGreaterEqual(agreement(one, other, 200), 2 ** 200)
        self.assertLess(agreement(one, other, 200), 2 ** 201)

    def test_turns(self):
        found = 0
        for one, other in PAIRS + tuple((other, one) for one, other in PAIRS):
            many = len(one.grid)
            turn = turn_between(one, other)
            fitting = list(range(many))
            for order, (left, right) in orders_of_lines(one, other, 300):
                fitting = [own for own in fitting if [(direction + own) % many for direction in left] == right]
            if turn is None:
                self.assertTrue(not fitting or parting(one, other) is None or parting(one, other)[0] > 4)
            else:
                self.assertTrue(same(turn, fitting[0]))
                found += turn > 0
            self.assertEqual(turn == 0, are_alike(one, other))
        self.assertGreater(found, 1)
        self.assertEqual([turn_between(DRAGON, SAME), turn_between(SAME, DRAGON), turn_between(LEVY, DRAGON)],
                         [1, 3, None])
        for turn in range(6):
            turned = FLAKE.with_line("axiom " + " ".join(f"a{(own + turn) % 6}" for _, own in FLAKE.axiom))
            self.assertEqual(turn_between(FLAKE, turned), turn)


class Papers(unittest.TestCase):
    def test_papers(self):
        for one, other in PAIRS:
            value = likeness_paper(one, other)
            self.assertIs(is_likeness_paper(one, other, value), True)
            if are_alike(one, other):
                self.assertEqual((value[0], len(value)), ("alike", 2))
                self.assertEqual(value[1], self.least_pairs(one, other))
            else:
                self.assertTrue(same(value, ("parts", *parting(one, other))))

    def least_pairs(self, one, other):
        pairs = {pair for pair in zip(*[[letter for letter, _ in axiom_of(scheme)] for scheme in (one, other)])}
        for _ in range(40):
            pairs |= {(left, right) for letter, met in pairs
                      for (left, _), (right, _) in zip(one[letter].row, other[met].row)}
        return tuple(sorted(pairs))

    def test_which_sets_of_pairs(self):
        draw = random.Random(8)
        seen = [0, 0]
        for one, other in PAIRS[:80] + PAIRS[-10:]:
            every = [(letter, met) for letter in one for met in other]
            for _ in range(25):
                chosen = draw.sample(every, draw.randrange(len(every) + 1))
                if draw.random() < 0.5 and are_alike(one, other):
                    chosen = list(set(chosen) | set(self.least_pairs(one, other)))
                pairs = tuple(sorted(chosen))
                expected = self.is_right(one, other, pairs)
                self.assertIs(is_likeness_paper(one, other, ("alike", pairs)), expected)
                seen[expected] += 1
                if len(pairs) > 1:
                    for wrong in (pairs[::-1], pairs[:1] + pairs, list(pairs), pairs + pairs[-1:]):
                        self.assertIs(is_likeness_paper(one, other, ("alike", wrong)), False)
        self.assertGreater(min(seen), 20)

    def is_right(self, one, other, pairs):
        left, right = axiom_of(one), axiom_of(other)
        rows = [(left, right)] + [(list(one[letter]), list(other[met])) for letter, met in pairs]
        if len(left) != len(right):
            return False
        return all(own[1] == more[1] and (own[0], more[0]) in pairs for row in rows for own, more in zip(*row))

    def test_more_pairs_than_needed(self):
        self.assertIs(is_likeness_paper(TWINS, TWINS, ("alike", (("x", "x"), ("y", "y"), ("z", "z")))), True)
        every = tuple((one, other) for one in "kxyz" for other in "kxyz")
        self.assertIs(is_likeness_paper(TWINS, TWINS, ("alike", every)), False)
        more = (("k", "k"), ("x", "x"), ("x", "z"), ("y", "y"), ("z", "x"), ("z", "z"))
        self.assertIs(is_likeness_paper(TWINS, TWINS, ("alike", more)), True)
        for at in range(1, len(more)):
            less = more[:at] + more[at + 1:]
            self.assertIs(is_likeness_paper(TWINS, TWINS, ("alike", less)), self.is_right(TWINS, TWINS, less))

    def test_which_steps(self):
        for one, other in PAIRS[:60] + PAIRS[-10:]:
            for order, (left, right) in orders_of_lines(one, other, 60):
                for number in range(max(len(left), len(right)) + 2):
                    both = number < min(len(left), len(right))
                    expected = left[number] != right[number] if both else (
                        len(left) != len(right) and number == min(len(left), len(right)))
                    self.assertIs(is_likeness_paper(one, other, ("parts", order, number)), expected)

    def test_great_orders(self):
        self.assertIs(is_likeness_paper(NEVER, LONGER, ("parts", 200, 2 ** 201)), True)
        self.assertIs(is_likeness_paper(NEVER, LONGER, ("parts", 200, 2 ** 201 + 1)), False)
        self.assertIs(is_likeness_paper(NEVER, LONGER, ("parts", 200, 2 ** 201 - 1)), False)
        self.assertIs(is_likeness_paper(NEVER, LONGER, ("parts", 201, 2 ** 202)), False)
        number = agreement(DRAGON, LEVY, 200)
        for order, expected in [(200, True), (201, False), (-1, False), (10 ** 399, False)]:
            self.assertIs(is_likeness_paper(DRAGON, LEVY, ("parts", order, number)), expected)
        self.assertIs(is_likeness_paper(DRAGON, LEVY, ("parts", 200, 2 ** 200)), False)
        self.assertIs(is_likeness_paper(DRAGON, LEVY, ("parts", 200, 10 ** 399)), False)

    def test_values_of_other_forms(self):
        for pair in ((DRAGON, LEVY), (DRAGON, DRAGON), (LEVY, LEVY)):
            good = likeness_paper(*pair)
            wrong = [list(good), good + (0,), good[:1], (good,), ("alike",), ("parts",), ("alike", ()), ("parts", 0, 0),
                     ("parts", 2), ("parts", 2, True), ("parts", True, 2), ("parts", 2, -1), ("alike", (("a", "a"), 1)),
                     ("alike", (("a", "a", "a"),)), ("alike", (["a", "a"],)), ("alike", (("a", 0),)),
                     ("alike", (("a", "z"),)), ("alike", "aa"), ("alike", ("aa",)), ("alike", {("a", "a"): 1}),
                     (None, good[1]), ("Alike", good[1]), ("parts", good[1]), ("alike", *good[1:], 0)]
            wrong += [("alike", value) for value in VALUES] + [("parts", value, 2) for value in VALUES]
            wrong += [("parts", 2, value) for value in VALUES] + [(value, *good[1:]) for value in VALUES]
            for value in VALUES + wrong:
                if same(value, ("parts", 2, 2)) or same(value, ("parts", 7, 2)):
                    self.assertIs(is_likeness_paper(*pair, value), pair == (DRAGON, LEVY))
                    continue
                self.assertIs(is_likeness_paper(*pair, value), False, value)

    def test_true_is_not_1(self):
        other = DRAGON.with_line("axiom a1")
        self.assertIs(is_likeness_paper(DRAGON, other, ("parts", 1, 1)), True)
        for value in [("parts", True, 1), ("parts", 1, True), ("parts", False, 0), ("parts", 0, False)]:
            self.assertIs(is_likeness_paper(DRAGON, other, value), False)


class Errors(unittest.TestCase):
    calls = ((are_alike,), (parting,), (agreement, None), (turn_between,), (likeness_paper,), (is_likeness_paper, None))

    def test_what_is_no_scheme(self):
        for value in others(is_scheme):
            for call, *rest in self.calls:
                raised_by(self, InvalidScheme, call, value, None, *rest)
                raised_by(self, InvalidScheme, call, UNEVEN, value, *rest)

    def test_what_cannot_be_compared(self):
        uneven = Scheme.from_lines("grid square", "axiom a0", "rule a a0 a1", "rule z a0 a1 a0 a2")
        three = Scheme.from_lines("grid square", "axiom a0", "rule a a0 a1 a0")
        triangle = Scheme.from_lines("grid triangle", "axiom a0", "rule a a0 a1")
        for other in (*UNLIKE[:1], uneven, three, triangle, UNEVEN, LONG):
            for call, *rest in self.calls:
                raised_by(self, InvalidOperation, call, DRAGON, other, *rest)
                raised_by(self, InvalidOperation, call, other, DRAGON, *rest)
        for call, *rest in self.calls:
            raised_by(self, InvalidOperation, call, UNEVEN, UNEVEN, *rest)

    def test_other_growths_can_be_compared(self):
        self.assertNotEqual(ROAD.growth, LEVY.growth)
        self.assertEqual(parting(ROAD, LEVY), (1, 1))
        self.assertEqual(agreement(ROAD, LEVY, 5), 1)

    def test_what_is_no_order(self):
        for value in others(within(0, 200)) + [-1, 201]:
            self.assertIs(raised_by(self, InvalidNumber, agreement, DRAGON, LEVY, value).value, value)
        self.assertEqual(directions(DRAGON, 1), [0, 1])


if __name__ == "__main__":
    unittest.main()
