import itertools
import random
import unittest

from grownlines.errors import InvalidNumber, InvalidScheme, UnknownAddress, UnknownLetter
from grownlines.lines.grown import length_of, letter_counts, steps_of
from grownlines.lines.places import (address_of, end_of, is_address, kind_at, nth_step, number_of, point_at, step_at,
                                     steps_with)
from grownlines.lines.schemes import Scheme

from tests.helpers import (DRAGON, FLAKE, LONG, RAGGED, SCHEMES, SIX, THERE_AND_BACK, THREE, UNEVEN, UNITS, VALUES,
                           addresses_of_line, axiom_of, line_of, others, points_of, product, raised_by, same,
                           short_lines, sights_of, visits_of, within)

OF_NUMBERS = [step_at, point_at, address_of, kind_at]


def kinds_of_line(scheme, line):
    """The kinds of all visits."""
    return [kind for kind, direction, point in sights_of(scheme, line)]


class ShortLines(unittest.TestCase):
    def test_steps_and_points(self):
        for scheme, order in short_lines(300):
            line = line_of(scheme, order)
            self.assertTrue(same([step_at(scheme, order, number) for number in range(len(line))], line))
            visits = visits_of(scheme, line)
            self.assertTrue(same([point_at(scheme, order, number) for number in range(len(visits))], visits))
            self.assertTrue(same(end_of(scheme, order), points_of(scheme, line)[-1]))

    def test_the_numbers_beside_the_last_ones(self):
        for scheme, order in short_lines(300):
            line = line_of(scheme, order)
            visits = len(visits_of(scheme, line))
            for number in (-1, len(line), len(line) + 1, 10 ** 399):
                self.assertEqual(raised_by(self, InvalidNumber, step_at, scheme, order, number).value, number)
            for call in OF_NUMBERS[1:]:
                for number in (-1, visits, visits + 1, -visits):
                    self.assertEqual(raised_by(self, InvalidNumber, call, scheme, order, number).value, number)

    def test_kinds(self):
        for scheme, order in short_lines(300):
            kinds = kinds_of_line(scheme, line_of(scheme, order))
            self.assertTrue(same([kind_at(scheme, order, number) for number in range(len(kinds))], kinds))

    def test_addresses_and_numbers(self):
        for scheme, order in short_lines(300):
            addresses = addresses_of_line(scheme, order)
            self.assertEqual(len(addresses), len(visits_of(scheme, line_of(scheme, order))))
            for number, address in enumerate(addresses):
                self.assertTrue(same(address_of(scheme, order, number), address))
                self.assertEqual(number_of(scheme, address), number)
                self.assertIs(is_address(scheme, address), True)

    def test_values_near_addresses(self):
        for scheme, order in [(DRAGON, 0), (DRAGON, 3), (FLAKE, 0), (FLAKE, 2), (UNEVEN, 2), (THERE_AND_BACK, 2)]:
            addresses = set(addresses_of_line(scheme, order))
            for value in itertools.product(range(-1, 6), repeat=order + 1):
                self.check_address(scheme, value, value in addresses)

    def test_values_that_are_no_addresses(self):
        wrong = [(True,), (False,), (0, True), (0, False), [0], [0, 0], (0, [0]), (0, None), (0, (0,)), (0, "0"), "0/0",
                 (-1,), (0, -1), (10 ** 400,), (0, 10 ** 400), (0,) * 202, (1,) + (0,) * 201, (0,) * 300, 0, None, ()]
        for scheme in SCHEMES:
            for value in wrong:
                self.check_address(scheme, value, False)
            for value in VALUES:
                self.check_address(scheme, value, value in [(1,), (1, 2), (1, 2, 3)] and type(value) is tuple
                                   and value in addresses_of_line(scheme, len(value) - 1))
            self.check_address(scheme, (0,) * 201, True)
            self.check_address(scheme, (0,) * 200, True)
            self.check_address(scheme, (len(scheme.axiom),) + (0,) * 200, not scheme.is_closed)
            self.check_address(scheme, (len(scheme.axiom),) + (0,) * 199 + (1,), False)
            self.check_address(scheme, (len(scheme.axiom) + 1,), False)

    def check_address(self, scheme, value, valid):
        self.assertIs(is_address(scheme, value), valid, value)
        if not valid:
            self.assertIs(raised_by(self, UnknownAddress, number_of, scheme, value).lost, value)

    def test_steps_with_letters(self):
        for scheme, order in short_lines(300):
            line = line_of(scheme, order)
            for letter in scheme:
                numbers = [number for number, step in enumerate(line) if step[0] == letter]
                for number in range(len(line) + 1):
                    ahead = sum(step[0] == letter for step in line[:number])
                    self.assertEqual(steps_with(scheme, order, letter, number), ahead)
                self.assertEqual([nth_step(scheme, order, letter, index) for index in range(len(numbers))], numbers)
                for index in (-1, len(numbers), len(numbers) + 1):
                    error = raised_by(self, InvalidNumber, nth_step, scheme, order, letter, index)
                    self.assertEqual(error.value, index)
                for number in (-1, len(line) + 1):
                    error = raised_by(self, InvalidNumber, steps_with, scheme, order, letter, number)
                    self.assertEqual(error.value, number)


class LongLines(unittest.TestCase):
    def drawn(self, many):
        """Schemes and orders with numbers of steps, the first and last ones among them."""
        draw = random.Random(11)
        for scheme in SCHEMES + (SIX, THREE, RAGGED):
            for order in [200, 199, 100] + [draw.randrange(5, 200) for _ in range(many)]:
                length = length_of(scheme, order)
                numbers = [0, 1, length // 2, length - 2, length - 1]
                yield scheme, order, length, numbers + [draw.randrange(1, length) for _ in range(many)]

    def test_addresses_and_numbers_lead_to_one_another(self):
        for scheme, order, length, numbers in self.drawn(6):
            for number in numbers + ([] if scheme.is_closed else [length]):
                address = address_of(scheme, order, number)
                self.assertEqual(len(address), order + 1)
                self.assertIs(is_address(scheme, address), True)
                self.assertEqual(number_of(scheme, address), number)
                before = address[:-1]
                self.assertEqual(address_of(scheme, order - 1, number_of(scheme, before)), before)

    def test_neighbours_differ_by_the_unit_of_the_step(self):
        for scheme, order, length, numbers in self.drawn(6):
            for number in numbers:
                x, y = UNITS[scheme.grid.name][step_at(scheme, order, number)[1]]
                a, b = point_at(scheme, order, number)
                following = number + 1
                if following == length:
                    self.assertEqual(end_of(scheme, order), (a + x, b + y))
                    following = 0 if scheme.is_closed else length
                self.assertEqual(point_at(scheme, order, following), (a + x, b + y))

    def test_points_come_from_points(self):
        for scheme, order, length, numbers in self.drawn(4):
            for number in numbers:
                address = address_of(scheme, order - 1, number % length_of(scheme, order - 1))
                before = point_at(scheme, order - 1, number_of(scheme, address))
                after = point_at(scheme, order, number_of(scheme, address + (0,)))
                self.assertEqual(after, product(scheme.grid.name, before, scheme.growth))

    def test_kinds_tell_the_steps_beside(self):
        for scheme, order, length, numbers in self.drawn(4):
            for number in numbers:
                before = step_at(scheme, order, (number - 1) % length)
                after = step_at(scheme, order, number)
                kind = (before[0], after[0], (after[1] - before[1]) % len(scheme.grid))
                if number == 0 and not scheme.is_closed:
                    kind = ("", after[0], 0)
                self.assertEqual(kind_at(scheme, order, number), kind)
            if not scheme.is_closed:
                self.assertEqual(kind_at(scheme, order, length), (step_at(scheme, order, length - 1)[0], "", 0))

    def test_steps_with_letters(self):
        for scheme, order, length, numbers in self.drawn(4):
            counts = letter_counts(scheme, order)
            for letter in scheme:
                self.assertEqual(steps_with(scheme, order, letter, 0), 0)
                self.assertEqual(steps_with(scheme, order, letter, length), counts[letter])
                raised_by(self, InvalidNumber, nth_step, scheme, order, letter, counts[letter])
            for number in numbers:
                ahead = {letter: steps_with(scheme, order, letter, number) for letter in scheme}
                self.assertEqual(sum(ahead.values()), number)
                letter = step_at(scheme, order, number)[0]
                self.assertEqual(nth_step(scheme, order, letter, ahead[letter]), number)
                self.assertEqual(steps_with(scheme, order, letter, number + 1), ahead[letter] + 1)

    def test_ends(self):
        for scheme in SCHEMES:
            end = points_of(scheme, axiom_of(scheme))[-1]
            for order in range(201):
                self.assertEqual(end_of(scheme, order), end)
                end = product(scheme.grid.name, end, scheme.growth)

    def test_the_numbers_beside_the_last_ones(self):
        for scheme in SCHEMES:
            length = length_of(scheme, 200)
            visits = length if scheme.is_closed else length + 1
            for call in OF_NUMBERS:
                raised_by(self, InvalidNumber, call, scheme, 200, length if call is step_at else visits)
                raised_by(self, InvalidNumber, call, scheme, 200, -1)
                call(scheme, 200, length - 1)
            self.assertEqual(steps_of(scheme, 0)[0], axiom_of(scheme)[0])


class PlacesAndDrawnLines(unittest.TestCase):
    def test_long_rules(self):
        for scheme, order in [(SIX, 2), (THREE, 4), (RAGGED, 2)]:
            line = line_of(scheme, order)
            visits = visits_of(scheme, line)
            self.assertTrue(same([step_at(scheme, order, number) for number in range(len(line))], line))
            self.assertTrue(same([point_at(scheme, order, number) for number in range(len(visits))], visits))
            addresses = addresses_of_line(scheme, order)
            self.assertEqual([address_of(scheme, order, number) for number in range(len(visits))], addresses)
            self.assertEqual([number_of(scheme, address) for address in addresses], list(range(len(visits))))
            for letter in scheme.letters:
                numbers = [number for number, step in enumerate(line) if step[0] == letter]
                self.assertEqual([nth_step(scheme, order, letter, index) for index in range(len(numbers))], numbers)
                self.assertEqual([steps_with(scheme, order, letter, number) for number in numbers],
                                 list(range(len(numbers))))


class Errors(unittest.TestCase):
    def test_what_is_no_scheme(self):
        for value in others(lambda value: isinstance(value, Scheme)):
            for call in OF_NUMBERS:
                raised_by(self, InvalidScheme, call, value, None, None)
            raised_by(self, InvalidScheme, end_of, value, None)
            raised_by(self, InvalidScheme, number_of, value, None)
            raised_by(self, InvalidScheme, is_address, value, None)
            raised_by(self, InvalidScheme, steps_with, value, None, None, None)
            raised_by(self, InvalidScheme, nth_step, value, None, None, None)

    def test_what_is_no_order(self):
        for value in others(within(0, 200)) + [-1, 201]:
            for call in OF_NUMBERS:
                self.assertIs(raised_by(self, InvalidNumber, call, DRAGON, value, -1).value, value)
            self.assertIs(raised_by(self, InvalidNumber, end_of, DRAGON, value).value, value)
            for call in (steps_with, nth_step):
                self.assertIs(raised_by(self, InvalidNumber, call, DRAGON, value, None, -1).value, value)

    def test_what_is_no_letter(self):
        for value in others(lambda value: value == "a") + ["b"]:
            for call in (steps_with, nth_step):
                self.assertIs(raised_by(self, UnknownLetter, call, FLAKE, 2, value, None).word, value)

    def test_what_is_no_number(self):
        for value in others(within(0, 100)):
            for call in OF_NUMBERS:
                self.assertIs(raised_by(self, InvalidNumber, call, LONG, 1, value).value, value)
            for call in (steps_with, nth_step):
                self.assertIs(raised_by(self, InvalidNumber, call, LONG, 1, "a", value).value, value)

    def test_a_letter_that_no_line_has(self):
        self.assertEqual(steps_with(UNEVEN, 50, "z", length_of(UNEVEN, 50)), 0)
        self.assertEqual(raised_by(self, InvalidNumber, nth_step, UNEVEN, 50, "z", 0).value, 0)


if __name__ == "__main__":
    unittest.main()
