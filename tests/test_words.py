import unittest

from grownlines.base import words
from grownlines.base.words import is_count, is_integer, is_letter, is_point, write_integer

from tests.helpers import GREAT, INTEGERS, NESTS, OBJECTS, TEXTS, VALUES, integer, point


class Words(unittest.TestCase):
    def test_the_limit(self):
        self.assertEqual(words.MAX_FIGURES, 400)

    def test_integers_have_at_most_400_digits(self):
        for digits, valid in [(1, True), (399, True), (400, True), (401, False), (500, False)]:
            for figure in (1, 9):
                value = int(str(figure) * digits)
                self.assertIs(is_integer(value), valid, digits)
                self.assertIs(is_integer(-value), valid, digits)
                self.assertIs(is_count(value), valid, digits)
                self.assertIs(is_count(-value), False, digits)
        self.assertIs(is_integer(10 ** 400 - 1), True)
        self.assertIs(is_integer(10 ** 400), False)
        self.assertIs(is_integer(1 - 10 ** 400), True)
        self.assertIs(is_integer(-10 ** 400), False)

    def test_integers_and_counts_of_every_kind(self):
        for value in VALUES:
            self.assertIs(is_integer(value), integer(value), value)
            self.assertIs(is_count(value), integer(value) and value >= 0, value)
        self.assertIs(is_count(0), True)
        self.assertIs(is_count(-1), False)
        for value in (True, False):
            self.assertIs(is_integer(value), False)
            self.assertIs(is_count(value), False)

    def test_letters(self):
        for number in range(128):
            self.assertIs(is_letter(chr(number)), 97 <= number <= 122, chr(number))
        for value in ["", "ab", "aa", "abc", "az", " a", "a ", "a\n"]:
            self.assertIs(is_letter(value), False, value)
        for value in VALUES:
            self.assertIs(is_letter(value), value in ("a", "z") and type(value) is str, value)

    def test_points(self):
        for value in VALUES:
            self.assertIs(is_point(value), point(value), value)
        for value in INTEGERS:
            self.assertIs(is_point((value, 3)), True)
            self.assertIs(is_point((3, value)), True)
        for value in [None, True, False] + GREAT + OBJECTS + TEXTS + NESTS:
            self.assertIs(is_point((value, 3)), False, value)
            self.assertIs(is_point((3, value)), False, value)

    def test_integers_are_written_at_any_size(self):
        for value in [0, 1, -1, 99, 10 ** 399, 10 ** 400 - 1, 10 ** 400, -10 ** 400, 7 * 10 ** 800 + 5, 3 ** 5000]:
            self.assertEqual(write_integer(value), str(value))
        self.assertEqual(write_integer(-(10 ** 9000)), "-1" + "0" * 9000)


if __name__ == "__main__":
    unittest.main()
