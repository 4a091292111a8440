import itertools
import unittest

from grownlines.base.grids import Grid
from grownlines.base.rules import Rule
from grownlines.errors import InvalidGrid, InvalidScheme, ParseError, UnknownLetter
from grownlines.lines import schemes
from grownlines.lines.schemes import Scheme

from tests.helpers import (DRAGON, FLAKE, LONG, SQUARE, THERE_AND_BACK, TRIANGLE, UNEVEN, VALUES, others, raised_by,
                           same)

A0, A1, A2, A3 = [("a", turn) for turn in range(4)]
B0, B1 = ("b", 0), ("b", 1)
LETTERS = "abcdefghijklmnopqrstuvwxyz"


def is_row_text(words, least):
    """Whether words are at least so many items, and at most 12."""
    items = [word for word in words if len(word) == 2 and word[0] in LETTERS and word[1] in "012345"]
    return items == words and least <= len(words) <= 12


class Making(unittest.TestCase):
    def test_the_limits(self):
        self.assertEqual([schemes.MAX_LETTERS, schemes.MAX_AXIOM], [6, 12])

    def test_what_a_scheme_has(self):
        scheme = Scheme(SQUARE, (A1, A0), {"b": (B1, A0), "a": (A0, B1)})
        self.assertEqual(scheme.grid, SQUARE)
        self.assertTrue(same(scheme.axiom, (A1, A0)))
        self.assertEqual(scheme.letters, ("a", "b"))
        self.assertEqual(scheme.growth, (1, 1))
        self.assertEqual(scheme.lines, ("grid square", "axiom a1 a0", "rule a a0 b1", "rule b b1 a0"))
        self.assertIs(scheme.is_closed, False)
        self.assertIs(scheme.is_even, True)
        self.assertEqual(scheme.used, ("a", "b"))
        self.assertEqual(scheme["a"], Rule(SQUARE, (A0, B1)))
        self.assertEqual(scheme["b"].row, (B1, A0))

    def test_a_passed_dict_is_not_kept_and_not_changed(self):
        passed = {"b": (B1, A0), "a": (A0, B1)}
        scheme = Scheme(SQUARE, (A0,), passed)
        self.assertEqual(list(passed.items()), [("b", (B1, A0)), ("a", (A0, B1))])
        passed["a"] = (A0, A0)
        del passed["b"]
        self.assertEqual(scheme.lines[2:], ("rule a a0 b1", "rule b b1 a0"))
        self.assertEqual([str(scheme["a"]), str(scheme["b"])], ["a0 b1", "b1 a0"])

    def test_wrong_grids(self):
        for value in others(lambda value: isinstance(value, Grid)):
            raised_by(self, InvalidGrid, Scheme, value, (A0,), {"a": (A0, A0)})
            raised_by(self, InvalidGrid, Scheme, value, None, None)

    def test_wrong_axioms(self):
        for size in range(1, 13):
            self.assertEqual(len(Scheme(SQUARE, (A0,) * size, {"a": (A0, A0)}).axiom), size)
        wrong = [(), (A0,) * 13, [A0], (B0,), (A0, B0), (("a", 4),), (("a", -1),), (("a", True),), ("a0",), "a0"]
        for value in VALUES + wrong:
            raised_by(self, InvalidScheme, Scheme, SQUARE, value, {"a": (A0, A0)})

    def test_wrong_rules(self):
        for size in range(2, 13):
            self.assertEqual(len(Scheme(SQUARE, (A0,), {"a": (A0,) * size})["a"]), size)
        rows = [(), (A0,), (A0,) * 13, [A0, A0], (A0, B0), (A0, ("a", 4)), (A0, ("a", True)), "a0 a0"]
        for value in VALUES + [{"a": row} for row in rows] + [{}, [("a", (A0, A0))]]:
            raised_by(self, InvalidScheme, Scheme, SQUARE, (A0,), value)
        for key in (None, 1, True, "", "ab", "A", (), ("a", 0)):
            raised_by(self, InvalidScheme, Scheme, SQUARE, (A0,), {"a": (A0, A0), key: (A0, A0)})
        raised_by(self, InvalidScheme, Scheme, SQUARE, (A0,), {"b": (A0, B0)})
        raised_by(self, InvalidScheme, Scheme, SQUARE, (A0,), {"b": (B0, B0)})

    def test_one_to_six_letters(self):
        for many in range(9):
            rules = {letter: (A0, A0) for letter in "abcdefgh"[:many]}
            if 1 <= many <= 6:
                self.assertEqual(Scheme(SQUARE, (A0,), rules).letters, tuple("abcdef"[:many]))
            else:
                raised_by(self, InvalidScheme, Scheme, SQUARE, (A0,), rules)

    def test_one_growth_with_a_norm_of_at_least_two(self):
        ends = {"square": [(1, 0), (0, 1), (-1, 0), (0, -1)],
                "triangle": [(1, 0), (0, 1), (-1, 1), (-1, 0), (0, -1), (1, -1)]}
        for grid in (SQUARE, TRIANGLE):
            for turns in itertools.product(range(len(grid)), repeat=3):
                row = tuple(("a", turn) for turn in turns)
                x = sum(ends[grid.name][turn][0] for turn in turns)
                y = sum(ends[grid.name][turn][1] for turn in turns)
                norm = x * x + y * y + (x * y if grid is TRIANGLE else 0)
                if norm >= 2:
                    self.assertEqual(Scheme(grid, (A0,), {"a": row}).growth, (x, y))
                else:
                    raised_by(self, InvalidScheme, Scheme, grid, (A0,), {"a": row})
        raised_by(self, InvalidScheme, Scheme, SQUARE, (A0,), {"a": (A0, A0), "b": (A1, A1)})
        raised_by(self, InvalidScheme, Scheme, SQUARE, (A0,), {"a": (A0, A0), "b": (A0, A1)})
        self.assertEqual(Scheme(SQUARE, (A0,), {"a": (A0, A1), "b": (A1, A0, A1, A3)}).growth, (1, 1))

    def test_closed_even_used(self):
        self.assertEqual([DRAGON.is_closed, FLAKE.is_closed, THERE_AND_BACK.is_closed], [False, True, True])
        self.assertEqual([DRAGON.is_even, UNEVEN.is_even, LONG.is_even], [True, False, True])
        self.assertEqual([UNEVEN.used, UNEVEN.letters], [("a", "b", "c"), ("a", "b", "c", "z")])
        chain = {letter: ((after, 0), (after, 0)) for letter, after in zip("fedcba", "edcbaa")}
        for begin, used in [("f", "abcdef"), ("d", "abcd"), ("a", "a")]:
            self.assertEqual(Scheme(SQUARE, ((begin, 0),), chain).used, tuple(used))


class Lines(unittest.TestCase):
    def test_lines_in_any_order(self):
        for lines in itertools.permutations(DRAGON.lines):
            self.assertEqual(Scheme.from_lines(*lines).lines, DRAGON.lines)

    def test_what_is_no_line(self):
        wrong = ["grid", "grid hexagon", "grid  square", " grid square", "grid square ", "Grid square", "grid square a0",
                 "axiom", "axiom ", "axiom a", "axiom a6", "axiom a-1", "axiom a0  a1", "axiom a0 ", "axiom  a0",
                 "axiom A0", "axiom a00", "axiom" + " a0" * 13, "rule", "rule a", "rule a a0", "rule a  a0 a0",
                 "rule ab a0 a0", "rule A a0 a0", "rule a0 a0 a0", "rule a a0 a6", "rule a" + " a0" * 13,
                 "rule  a a0 a0", "rule a a0 a0\n", "axiom a0\n", "grid square\n", "rule a a0,a0", "what a a0 a0", "a0"]
        for value in VALUES + wrong:
            self.assertEqual(raised_by(self, ParseError, Scheme.from_lines, value).number, 0)
            self.assertEqual(raised_by(self, ParseError, Scheme.from_lines, *DRAGON.lines, value).number, 4)
            self.assertEqual(raised_by(self, ParseError, Scheme.from_lines, "grid square", value, None).number, 1)
            self.assertIsNone(raised_by(self, ParseError, DRAGON.with_line, value).number)
            self.assertIs(value in DRAGON, value == "a")

    def test_lines_with_one_sign_more_less_or_exchanged(self):
        signs = [chr(number) for number in range(32, 127)] + ["\n"]
        for line in ("grid square", "axiom a0 b3", "rule b a1 b0"):
            changed = [line[:at] + line[at + 1:] for at in range(len(line))]
            changed += [line[:at] + sign + line[at:] for at in range(len(line) + 1) for sign in signs]
            changed += [line[:at] + sign + line[at + 1:] for at in range(len(line)) for sign in signs]
            for value in changed:
                words = value.split(" ")
                valid = value in ("grid square", "grid triangle")
                if words[0] == "axiom":
                    valid = is_row_text(words[1:], 1)
                if words[0] == "rule":
                    valid = words[1] in list(LETTERS) and is_row_text(words[2:], 2)
                if valid:
                    with self.assertRaises(InvalidScheme):
                        Scheme.from_lines(value)
                else:
                    self.assertEqual(raised_by(self, ParseError, Scheme.from_lines, value).number, 0, value)

    def test_second_lines(self):
        lines = ("rule b a1 b0",) + DRAGON.lines[:3]
        for line in ("grid square", "grid triangle", "axiom a0", "axiom b1 b2", "rule a a0 a0", "rule b a1 b0"):
            self.assertEqual(raised_by(self, ParseError, Scheme.from_lines, *lines, line, None).number, 4)
        self.assertEqual(raised_by(self, ParseError, Scheme.from_lines, "axiom a0", "axiom a0").number, 1)

    def test_missing_lines(self):
        raised_by(self, InvalidScheme, Scheme.from_lines)
        for index in range(4):
            raised_by(self, InvalidScheme, Scheme.from_lines, *DRAGON.lines[:index], *DRAGON.lines[index + 1:])
        for index in range(4):
            raised_by(self, InvalidScheme, Scheme.from_lines, DRAGON.lines[index])

    def test_lines_of_no_scheme(self):
        for line in ("axiom c0", "rule b a1 b1", "rule a a0 c1", "rule a a0 a2", "rule a a0 b0"):
            lines = [own for own in DRAGON.lines if own[:6] != line[:6]]
            raised_by(self, InvalidScheme, Scheme.from_lines, *lines, line)
        more = [f"rule {letter} a0 b1" for letter in "cdefg"]
        self.assertEqual(len(Scheme.from_lines(*DRAGON.lines, *more[:4])), 6)
        raised_by(self, InvalidScheme, Scheme.from_lines, *DRAGON.lines, *more)

    def test_parse_errors_come_first(self):
        self.assertEqual(raised_by(self, ParseError, Scheme.from_lines, "axiom c0", "rule a a0 a2", "x").number, 2)

    def test_turns_4_and_5_make_lines_but_no_scheme_of_the_square_grid(self):
        for line in ("axiom a4", "axiom a5", "rule a a0 a0 a4", "rule a a5 a0"):
            lines = [own for own in ("grid square", "axiom a0", "rule a a0 a0") if own[:5] != line[:5]]
            raised_by(self, InvalidScheme, Scheme.from_lines, *lines, line)
            raised_by(self, InvalidScheme, DRAGON.with_line, line)
            self.assertIn(line, Scheme.from_lines("grid triangle", *lines[1:], line))
        raised_by(self, InvalidScheme, FLAKE.with_line, "grid square")


class Changing(unittest.TestCase):
    def test_with_line(self):
        kept = DRAGON.lines
        for index, line in enumerate(["grid triangle", "axiom b1 b0", "rule a b1 a0", "rule b b1 b0"]):
            lines = DRAGON.lines[:index] + (line,) + DRAGON.lines[index + 1:]
            self.assertEqual(DRAGON.with_line(line).lines, lines)
            self.assertEqual(DRAGON.with_line(DRAGON.lines[index]), DRAGON)
        self.assertEqual(DRAGON.with_line("rule c c0 a1").lines, DRAGON.lines + ("rule c c0 a1",))
        self.assertEqual(DRAGON.lines, kept)
        for line in ("axiom c0", "rule a a0 a0", "rule c a0 d1", "rule c a0 a2"):
            raised_by(self, InvalidScheme, DRAGON.with_line, line)
        raised_by(self, InvalidScheme, LONG.with_line, "rule g " + str(LONG["a"]))

    def test_without(self):
        scheme = DRAGON.with_line("rule c c0 a1").with_line("rule d c0 a1")
        self.assertEqual(scheme.without("d"), DRAGON.with_line("rule c c0 a1"))
        self.assertEqual(len(scheme), 4)
        for letter in "abc":
            raised_by(self, InvalidScheme, scheme.without, letter)
        raised_by(self, InvalidScheme, FLAKE.without, "a")
        for value in others(lambda value: value == "a") + ["b", "grid", "axiom", "grid square", "rule"]:
            self.assertIs(raised_by(self, UnknownLetter, FLAKE.without, value).word, value)

    def test_rules_by_letter(self):
        self.assertEqual([str(DRAGON["a"]), str(DRAGON["b"])], ["a0 b1", "a1 b0"])
        for value in others(lambda value: value == "a") + ["b", "grid"]:
            self.assertIs(raised_by(self, UnknownLetter, lambda letter: FLAKE[letter], value).word, value)

    def test_values_in_a_scheme(self):
        for value in ("a", "b") + DRAGON.lines:
            self.assertIs(value in DRAGON, True)
        strange = ["c", "grid triangle", "axiom a1", "rule a a0 b2", "rule c a0 b1", DRAGON.lines, DRAGON["a"], DRAGON]
        for value in others(lambda value: value == "a") + strange:
            self.assertIs(value in DRAGON, False)

    def test_letters_and_texts(self):
        self.assertEqual([len(DRAGON), list(DRAGON), len(UNEVEN), list(UNEVEN)], [2, ["a", "b"], 4, list("abcz")])
        self.assertEqual(str(DRAGON), "scheme of 2 letters on the square grid")
        self.assertEqual(str(LONG), "scheme of 6 letters on the triangle grid")

    def test_equality(self):
        other = Scheme(Grid("square"), DRAGON.axiom, {"b": DRAGON["b"].row, "a": DRAGON["a"].row})
        self.assertTrue(DRAGON == other)
        self.assertFalse(DRAGON != other)
        different = [DRAGON.with_line("grid triangle"), DRAGON.with_line("axiom a1"), DRAGON.with_line("rule b b1 a0"),
                     DRAGON.with_line("rule c c0 a1"), DRAGON.lines, str(DRAGON)]
        for value in different + others(lambda value: value is DRAGON):
            self.assertIs(DRAGON == value, False)
            self.assertIs(DRAGON != value, True)


if __name__ == "__main__":
    unittest.main()
