import unittest

from grownlines.base import rules
from grownlines.base.grids import Grid
from grownlines.base.rules import Rule, is_item, is_row, read_row, write_row
from grownlines.errors import InvalidGrid, InvalidNumber, InvalidOperation, InvalidRule, ParseError

from tests.helpers import (BOTH, GREAT, SQUARE, TRIANGLE, UNITS, VALUES, add, integer, nested, others, raised_by,
                           same, within)

LETTERS = "abcdefghijklmnopqrstuvwxyz"
ALL = tuple((letter, number % 6) for number, letter in enumerate(LETTERS))


def is_grid(value):
    return isinstance(value, Grid)


def item_of(many):
    """The test for an item, by the words of the document."""
    return lambda value: (type(value) is tuple and len(value) == 2 and type(value[0]) is str and len(value[0]) == 1
                          and value[0] in LETTERS and type(value[1]) is int and 0 <= value[1] < many)


class Items(unittest.TestCase):
    def test_the_limits(self):
        self.assertEqual([rules.MIN_ITEMS, rules.MAX_ITEMS], [2, 12])

    def test_items(self):
        for grid in BOTH:
            many = len(grid)
            for letter in LETTERS:
                for turn in range(-2, 9):
                    self.assertIs(is_item(grid, (letter, turn)), 0 <= turn < many)
            for value in VALUES:
                self.assertIs(is_item(grid, value), item_of(many)(value), value)
                self.assertIs(is_item(grid, (value, 1)), item_of(many)((value, 1)), value)
                self.assertIs(is_item(grid, ("a", value)), item_of(many)(("a", value)), value)
            self.assertIs(is_item(grid, ("a", True)), False)
            self.assertIs(is_item(grid, ("a", 0, 0)), False)
            self.assertIs(is_item(grid, ["a", 0]), False)

    def test_rows(self):
        for grid in BOTH:
            for size in range(15):
                for least in (0, 1, 2, 11, 12, 13, 10 ** 399):
                    row = tuple([("a", 1)] * size)
                    self.assertIs(is_row(grid, row, least=least), least <= size <= 12)
                    self.assertIs(is_row(grid, list(row), least=least), False)
            for value in VALUES:
                self.assertIs(is_row(grid, value, least=0), value == () and type(value) is tuple)
                if not item_of(len(grid))(value):
                    self.assertIs(is_row(grid, (("a", 0), value), least=0), False)
        self.assertIs(is_row(TRIANGLE, (("a", 4), ("b", 5)), least=2), True)
        self.assertIs(is_row(SQUARE, (("a", 4), ("b", 5)), least=2), False)

    def test_wrong_arguments(self):
        for value in others(is_grid):
            raised_by(self, InvalidGrid, is_item, value, ("a", 0))
            raised_by(self, InvalidGrid, is_row, value, (("a", 0),), least=1)
            raised_by(self, InvalidGrid, is_row, value, (("a", 0),), least=None)
        for value in others(integer) + [-1, -10 ** 399]:
            self.assertIs(raised_by(self, InvalidNumber, is_row, SQUARE, (), least=value).value, value)
            self.assertIs(raised_by(self, InvalidNumber, is_row, SQUARE, None, least=value).value, value)


class Texts(unittest.TestCase):
    def test_what_is_written_is_read_back(self):
        for size in range(1, 13):
            for begin in range(26 - size):
                row = ALL[begin:begin + size]
                text = " ".join(letter + str(turn) for letter, turn in row)
                self.assertEqual(write_row(row), text)
                self.assertTrue(same(read_row(text), row))

    def test_what_is_no_row_is_not_written(self):
        for value in VALUES + [ALL[:13], ALL, list(ALL[:2]), (("a", 6),), (("a", -1),), ("a", 0), (("a", True),)]:
            raised_by(self, InvalidRule, write_row, value)

    def test_what_is_no_text_is_not_read(self):
        wrong = [" ".join(letter + str(turn) for letter, turn in ALL[:size]) for size in (0, 13, 26)]
        for value in [value for value in VALUES if value not in ("a0", "a0 b1")] + wrong + [b"a0", ["a0"], ("a0",)]:
            self.assertIsNone(raised_by(self, ParseError, read_row, value).number)

    def test_texts_with_one_sign_more_less_or_exchanged(self):
        text = "a0 b1 z5"
        signs = [chr(number) for number in range(32, 127)] + ["\n"]
        changed = [text[:at] + text[at + 1:] for at in range(8)]
        changed += [text[:at] + sign + text[at:] for at in range(9) for sign in signs]
        changed += [text[:at] + sign + text[at + 1:] for at in range(8) for sign in signs]
        read = 0
        for value in changed:
            words = value.split(" ")
            if all(len(word) == 2 and word[0] in LETTERS and word[1] in "012345" for word in words):
                self.assertEqual(write_row(read_row(value)), value)
                read += 1
            else:
                self.assertIsNone(raised_by(self, ParseError, read_row, value).number)
        # Letters, turns, and the blanks that are exchanged for themselves.
        self.assertEqual(read, 3 * 26 + 3 * 6 + 2)


class Rules(unittest.TestCase):
    def check(self, rule, grid, row):
        self.assertIsInstance(rule, Rule)
        self.assertEqual(rule.grid, grid)
        self.assertTrue(same(rule.row, tuple(row)))
        self.assertEqual(rule.letters, tuple(sorted({letter for letter, _ in row})))
        points = [(0, 0)]
        for _, turn in row:
            points.append(add(points[-1], UNITS[grid.name][turn]))
        self.assertTrue(same(rule.starts, tuple(points[:-1])))
        self.assertEqual(rule.end, points[-1])
        self.assertEqual(len(rule), len(row))
        self.assertEqual(list(rule), list(row))
        self.assertEqual([rule[index] for index in range(len(row))], list(row))
        self.assertEqual(str(rule), " ".join(f"{letter}{turn}" for letter, turn in row))

    def rows(self, grid):
        row = tuple((letter, (7 * number + 3) % len(grid)) for number, letter in enumerate("cabbagecafed"))
        return [row[begin:begin + size] for size in (2, 3, 7, 12) for begin in range(13 - size)]

    def test_what_a_rule_has(self):
        for grid in BOTH:
            for row in self.rows(grid):
                self.check(Rule(grid, row), grid, row)

    def test_wrong_arguments(self):
        for value in others(is_grid):
            raised_by(self, InvalidGrid, Rule, value, (("a", 0), ("a", 0)))
            raised_by(self, InvalidGrid, Rule, value, None)
        row = (("a", 0),) * 13
        wrong = [row, row[:1], (), list(row[:2]), (("a", 4), ("a", 0)), (("a", True), ("a", 0)), ("a0", "b1"), "a0 b1"]
        for value in VALUES + wrong:
            raised_by(self, InvalidRule, Rule, SQUARE, value)

    def test_from_text(self):
        for grid in BOTH:
            for row in self.rows(grid):
                text = " ".join(f"{letter}{turn}" for letter, turn in row)
                self.check(Rule.from_text(grid, text), grid, row)
            wrong = ["a0", "a0  b1", " a0 b1", "a0 b1 ", "a0 b6", "a0 b", "a0 b-1", " ".join(["a0"] * 13)]
            for value in [value for value in VALUES if value != "a0 b1"] + wrong:
                self.assertIsNone(raised_by(self, ParseError, Rule.from_text, grid, value).number)
        for text in ("a0 b4", "a5 b0"):
            self.assertIsNone(raised_by(self, ParseError, Rule.from_text, SQUARE, text).number)
            self.assertEqual(str(Rule.from_text(TRIANGLE, text)), text)
        for value in others(is_grid):
            raised_by(self, InvalidGrid, Rule.from_text, value, "a0 b1")
            raised_by(self, InvalidGrid, Rule.from_text, value, None)

    def test_drawn(self):
        for grid in BOTH:
            many = len(grid)
            for row in self.rows(grid):
                for direction in range(many):
                    steps = tuple((letter, (turn + direction) % many) for letter, turn in row)
                    self.assertTrue(same(Rule(grid, row).drawn(direction), steps))
            rule = Rule(grid, row)
            for value in others(within(0, many - 1)) + [-1, many, many + 1]:
                self.assertIs(raised_by(self, InvalidNumber, rule.drawn, value).value, value)

    def test_backward_and_mirrored(self):
        for grid in BOTH:
            for row in self.rows(grid):
                rule = Rule(grid, row)
                self.check(rule.backward(), grid, row[::-1])
                self.check(rule.mirrored(), grid, [(letter, -turn % len(grid)) for letter, turn in row])
                self.check(rule, grid, row)

    def test_renamed(self):
        rule = Rule(SQUARE, (("a", 0), ("b", 1), ("a", 3)))
        self.check(rule.renamed({"b": "a", "a": "z"}), SQUARE, (("z", 0), ("a", 1), ("z", 3)))
        self.check(rule.renamed({"a": "q", "b": "q"}), SQUARE, (("q", 0), ("q", 1), ("q", 3)))
        self.check(rule, SQUARE, (("a", 0), ("b", 1), ("a", 3)))
        wrong = [{"a": "a"}, {"b": "a"}, {"a": "a", "b": "b", "c": "c"}, {"a": "a", "c": "c"}, {"a": "a", 1: "b"},
                 {"a": "a", None: "b"}, [("a", "b"), ("b", "a")], (("a", "b"), ("b", "a"))]
        for value in VALUES + wrong:
            raised_by(self, InvalidOperation, rule.renamed, value)
        for value in others(lambda value: value in ("a", "z")):
            raised_by(self, InvalidOperation, rule.renamed, {"a": "a", "b": value})

    def test_sums(self):
        for grid in BOTH:
            for one in self.rows(grid):
                for other in self.rows(grid):
                    first, second = Rule(grid, one), Rule(Grid(grid.name), other)
                    if len(one) + len(other) <= 12:
                        self.check(first + second, grid, one + other)
                    else:
                        raised_by(self, InvalidRule, lambda a, b: a + b, first, second)
                    self.check(first, grid, one)
        rule = Rule(SQUARE, (("a", 0), ("b", 1)))
        for value in others(lambda value: isinstance(value, Rule)) + [Rule(TRIANGLE, rule.row)]:
            raised_by(self, InvalidRule, lambda a, b: a + b, rule, value)

    def test_indexes(self):
        rule = Rule(SQUARE, (("a", 0), ("b", 1), ("c", 2)))
        for value in others(within(0, 2)) + [3, -1, -3]:
            self.assertIs(raised_by(self, InvalidNumber, lambda index: rule[index], value).value, value)

    def test_values_in_a_rule(self):
        rule = Rule(SQUARE, (("a", 0), ("b", 1)))
        self.assertEqual([("a", 0) in rule, ("b", 1) in rule, "a" in rule, "b" in rule], [True] * 4)
        strange = [("a", 1), ("b", 0), "c", "z", ("a", False), ("b", True), ["a", 0], "a0", ("a",), rule]
        for value in [value for value in VALUES if value not in ("a", ("a", 0))] + strange + [nested(8)] + GREAT:
            self.assertIs(value in rule, False, value)

    def test_equality(self):
        row = (("a", 0), ("b", 1))
        rule = Rule(SQUARE, row)
        self.assertTrue(rule == Rule(Grid("square"), row))
        self.assertFalse(rule != Rule(Grid("square"), row))
        for value in [Rule(TRIANGLE, row), Rule(SQUARE, row[::-1]), Rule(SQUARE, row + row), row, "a0 b1"]:
            self.assertIs(rule == value, False)
            self.assertIs(rule != value, True)
        for value in others(lambda value: isinstance(value, Rule)):
            self.assertIs(rule == value, False)
            self.assertIs(rule != value, True)


if __name__ == "__main__":
    unittest.main()
