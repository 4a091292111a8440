import itertools
import unittest

from grownlines.errors import InvalidNumber, InvalidOperation, InvalidScheme, TooMany, UnknownLetter
from grownlines.lines import grown as module
from grownlines.lines.grown import (each_point, each_step, grown, length_of, letter_counts, sequel, step_counts,
                                    steps_of)
from grownlines.lines.schemes import Scheme

from tests.helpers import (DRAGON, FLAKE, LONG, RAGGED, SCHEMES, SIX, THREE, UNEVEN, VALUES, grow, line_of, others,
                           raised_by, same, short_lines, visits_of, within)

ROAD = Scheme.from_lines("grid square", "axiom a0", "rule a a0 a0")

GREAT = (SIX, THREE, RAGGED) + SCHEMES


def first_of(generator):
    """A call that asks a generator for its first result."""
    return lambda *values: next(iter(generator(*values)))


class Lines(unittest.TestCase):
    def test_the_limits(self):
        self.assertEqual([module.MAX_ORDER, module.MAX_STEPS], [200, 5000])

    def test_short_lines(self):
        for scheme, order in short_lines(700):
            line = line_of(scheme, order)
            self.assertTrue(same(steps_of(scheme, order), tuple(line)))
            self.assertTrue(same(list(each_step(scheme, order)), line))
            self.assertTrue(same(list(each_point(scheme, order)), visits_of(scheme, line)))
            self.assertEqual(length_of(scheme, order), len(line))
            letters = {letter: sum(step[0] == letter for step in line) for letter in scheme}
            self.assertTrue(same(letter_counts(scheme, order), letters))
            steps = {step: line.count(step) for step in sorted(set(line))}
            self.assertTrue(same(step_counts(scheme, order), steps))

    def test_sequels(self):
        for scheme in SCHEMES:
            for letter in scheme:
                line = [(letter, 0)]
                for order in range(4):
                    if len(line) <= 5000:
                        self.assertTrue(same(sequel(scheme, letter, order), tuple(line)))
                    else:
                        raised_by(self, TooMany, sequel, scheme, letter, order)
                    line = grow(scheme, line)

    def test_grown(self):
        for scheme in SCHEMES:
            self.assertTrue(same(grown(scheme, ()), ()))
            line = tuple(itertools.product(scheme.letters, range(len(scheme.grid))))
            self.assertTrue(same(grown(scheme, line), tuple(grow(scheme, line))))
            self.assertTrue(same(grown(scheme, scheme.axiom), steps_of(scheme, 1)))

    def test_counts_at_order_200(self):
        self.assertEqual(length_of(DRAGON, 200), 2 ** 200)
        self.assertEqual(letter_counts(DRAGON, 200), {"a": 2 ** 199, "b": 2 ** 199})
        self.assertEqual(length_of(LONG, 200), 12 ** 201)
        for scheme in SCHEMES:
            letters = {letter: sum(step[0] == letter for step in scheme.axiom) for letter in scheme}
            for _ in range(200):
                following = {letter: 0 for letter in scheme}
                for letter in scheme:
                    for own, _ in scheme[letter]:
                        following[own] += letters[letter]
                letters = following
            self.assertTrue(same(letter_counts(scheme, 200), letters))
            self.assertEqual(length_of(scheme, 200), sum(letters.values()))
            steps = step_counts(scheme, 200)
            self.assertEqual(list(steps), sorted(steps))
            self.assertTrue(all(steps.values()))
            for letter in scheme:
                self.assertEqual(sum(steps[step] for step in steps if step[0] == letter), letters[letter])

    def test_the_first_results_at_order_200(self):
        # The line of an order begins with a line of a lower one where the first item of the axiom begins its rule.
        for scheme, order in [(DRAGON, 9), (FLAKE, 4)]:
            line = line_of(scheme, order)[:250]
            self.assertEqual(list(itertools.islice(each_step(scheme, 200), 250)), line)
            points = visits_of(scheme, line_of(scheme, order))[:250]
            self.assertEqual(list(itertools.islice(each_point(scheme, 200), 250)), points)
        self.assertEqual(next(iter(each_step(LONG, 200))), ("a", 0))
        self.assertEqual(list(itertools.islice(each_point(UNEVEN, 200), 1)), [(0, 0)])

    def test_generators_are_independent(self):
        one, other = each_step(DRAGON, 5), each_step(DRAGON, 5)
        self.assertEqual([next(one), next(one), next(other)], [("a", 0), ("b", 1), ("a", 0)])
        self.assertEqual(list(one), line_of(DRAGON, 5)[2:])

    def test_at_most_5000_steps(self):
        five = Scheme.from_lines("grid square", "axiom a0 a0 a0 a0 a0 a0 a0 a0", "rule a a0 a0 a0 a0 a0")
        self.assertEqual(len(steps_of(five, 4)), 5000)
        self.assertEqual(raised_by(self, TooMany, steps_of, five, 5).limit, 5000)
        self.assertEqual(len(grown(five, (("a", 0),) * 1000)), 5000)
        self.assertEqual(raised_by(self, TooMany, grown, five, (("a", 0),) * 1001).limit, 5000)
        # Rules of three and of seven items, for lines of 4998, 4999 and 5001 steps.
        mixed = Scheme.from_lines("grid square", "axiom a0", "rule a a0 a0 a0", "rule b a0 a0 a0 b0 b2 a0 a2")
        self.assertEqual(len(grown(mixed, (("a", 0),) * 1666)), 4998)
        self.assertEqual(len(grown(mixed, (("a", 0),) * 1664 + (("b", 0),))), 4999)
        self.assertEqual(raised_by(self, TooMany, grown, mixed, (("a", 0),) * 1667).limit, 5000)
        self.assertEqual(len(steps_of(ROAD, 12)), 4096)
        self.assertEqual(raised_by(self, TooMany, steps_of, ROAD, 13).limit, 5000)
        self.assertEqual(raised_by(self, TooMany, steps_of, LONG, 200).limit, 5000)
        self.assertEqual(len(sequel(DRAGON, "b", 12)), 4096)
        self.assertEqual(raised_by(self, TooMany, sequel, DRAGON, "b", 13).limit, 5000)
        self.assertEqual(raised_by(self, TooMany, sequel, DRAGON, "a", 200).limit, 5000)
        self.assertEqual(raised_by(self, TooMany, grown, DRAGON, (("a", 0),) * 6000).limit, 5000)


class CountsOfGreatOrders(unittest.TestCase):
    """Counts told of one order, against one another and against those one order lower."""

    def test_they_agree(self):
        for scheme in GREAT:
            for order in (200, 199, 64, 33, 1, 0):
                steps = step_counts(scheme, order)
                letters = letter_counts(scheme, order)
                self.assertEqual(list(steps), sorted(steps))
                self.assertEqual(list(letters), list(scheme.letters))
                self.assertEqual(sum(steps.values()), length_of(scheme, order))
                self.assertTrue(all(many > 0 for many in steps.values()))
                for letter in scheme.letters:
                    self.assertEqual(sum(steps[step] for step in steps if step[0] == letter), letters[letter])

    def test_they_come_from_one_order_lower(self):
        for scheme in GREAT:
            for order in (200, 199, 64, 33, 1):
                steps, letters = {}, {letter: 0 for letter in scheme.letters}
                for step, many in step_counts(scheme, order - 1).items():
                    for new in grow(scheme, [step]):
                        steps[new] = steps.get(new, 0) + many
                for letter, many in letter_counts(scheme, order - 1).items():
                    for own, _ in grow(scheme, [(letter, 0)]):
                        letters[own] += many
                self.assertEqual(step_counts(scheme, order), steps)
                self.assertEqual(letter_counts(scheme, order), letters)

    def test_short_lines(self):
        for scheme in GREAT:
            for order in (0, 1, 2, 3):
                line = line_of(scheme, order)
                steps = {step: line.count(step) for step in sorted(set(line))}
                self.assertTrue(same(step_counts(scheme, order), steps))
                self.assertEqual(length_of(scheme, order), len(line))

    def test_lengths_of_sequels(self):
        # At most 5000 steps, however long the rules of each letter are.
        for scheme in (RAGGED, UNEVEN, SIX):
            for letter in scheme.letters:
                line = [(letter, 0)]
                for order in range(5):
                    if len(line) <= 5000:
                        self.assertTrue(same(sequel(scheme, letter, order), tuple(line)))
                    else:
                        raised_by(self, TooMany, sequel, scheme, letter, order)
                        break
                    line = grow(scheme, line)


class Errors(unittest.TestCase):
    def test_what_is_no_scheme(self):
        calls = [length_of, letter_counts, step_counts, steps_of, first_of(each_step), first_of(each_point)]
        for value in others(lambda value: isinstance(value, Scheme)):
            for call in calls:
                raised_by(self, InvalidScheme, call, value, 1)
                raised_by(self, InvalidScheme, call, value, None)
            raised_by(self, InvalidScheme, sequel, value, None, None)
            raised_by(self, InvalidScheme, grown, value, None)

    def test_what_is_no_order(self):
        calls = [length_of, letter_counts, step_counts, steps_of, first_of(each_step), first_of(each_point)]
        for value in others(within(0, 200)) + [-1, 201]:
            for call in calls:
                self.assertIs(raised_by(self, InvalidNumber, call, DRAGON, value).value, value)
            self.assertIs(raised_by(self, InvalidNumber, sequel, DRAGON, "a", value).value, value)

    def test_generators_raise_when_they_are_asked(self):
        for generator in (each_step, each_point):
            for scheme, order, error in [(None, 0, InvalidScheme), (DRAGON, 201, InvalidNumber)]:
                results = generator(scheme, order)
                with self.assertRaises(error):
                    next(iter(results))

    def test_what_is_no_letter(self):
        for value in others(lambda value: value == "a") + ["b", "c"]:
            for order in (1, 200, 201, None):
                self.assertIs(raised_by(self, UnknownLetter, sequel, FLAKE, value, order).word, value)

    def test_what_is_no_row_of_steps(self):
        wrong = [[("a", 0)], ("a", 0), (("a", 4),), (("a", -1),), (("c", 0),), (("a", True),), (("a", 0, 0),),
                 (["a", 0],), ((0, "a"),), (("a", 0), None), "a0", (("a", 10 ** 400),), (("a", 4),) * 6000]
        for value in [value for value in VALUES if value != ()] + wrong + [(value,) for value in VALUES
                                                                           if value != ("a", 0)]:
            raised_by(self, InvalidOperation, grown, DRAGON, value)


if __name__ == "__main__":
    unittest.main()
