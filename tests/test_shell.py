import random
import unittest
from unittest import mock

from grownlines.decide.counts import count_meetings
from grownlines.decide.papers import first_order, is_paper
from grownlines.errors import (InvalidNumber, InvalidOperation, InvalidScheme, NothingToUndo, ParseError, Refused,
                               TooMany, UnknownLetter)
from grownlines.lines.grown import length_of
from grownlines.lines.places import point_at
from grownlines.lines.schemes import Scheme
from grownlines.text.pictures import picture
from grownlines.text.shell import Shell
from grownlines.text.texts import read_paper, write_scheme
from grownlines.use.bench import Bench
from grownlines.visits.meetings import FAULTS

from tests.helpers import BACK, DRAGON, FLAKE, LEVY, ROAD, STAR, VALUES, raised_by
from tests.test_bench import LINES
from tests.test_tables import DENSE

DRAGON_LINES = ", ".join(DRAGON.lines)
WORDS = {ParseError: "line", InvalidScheme: "scheme", InvalidOperation: "operation", UnknownLetter: "letter",
         InvalidNumber: "number", NothingToUndo: "undo"}
NO_COMMANDS = [
    "", " ", "fly", "undo ", " undo", "undo 2", "Undo", "redo  ", "lines x", "pledges ", "clear", "clear ", "clear x",
    "clear point ", "clear  point", "clear point edge", "clear Point", "first", "first points", "paper", "paper clear",
    "repairs", "repairs x", "length", "length ", "length x", "length -1", "length +1", "length 01", "length 00",
    "length 1 ", "length  1", "length 1 2", "length -0", "length 1.0", "length 1_0", "at", "at 1", "at 1 2 3", "at  1 2",
    "at 1  2", "at x 1", "at 1 x", "at 01 1", "at 1 01", "at 1 -1", "count", "count point", "count 1 point",
    "count point x", "count point 1 2", "count points 1", "count point 01", "count  point 1", "picture", "picture ",
    "picture x", "picture 01", "picture 1 ", "draw", "erase", "erase ", "erase ab", "erase A", "erase 1", "erase a ",
    "erase  a", "demand", "demand ", "demand x", "demand clear", "demand clear ", "demand clear x", "demand clear edge ",
    "demand  clear edge", "demand clear  edge", "demand late", "demand late edge", "demand late edge ",
    "demand late edge x", "demand late edge -1", "demand late edge 01", "demand late edge 1 ", "demand late edge 1 2",
    "demand late  edge 1", "demand draws", "demand Draws " + DRAGON_LINES, "waive", "waive ", "waive x", "waive clear",
    "waive late edge 01", "waive draws", "Lines", "lines\n", "clear point\n", "length 1\n", "quit", "draw\n", "undo\nundo",
    "length 1" + "0" * 400]


def pledge_text(pledge):
    return " ".join([pledge[0]] + [", ".join(part.lines) if isinstance(part, Scheme) else str(part)
                                   for part in pledge[1:]])


def answered(call, *values):
    """The news of a change in words, or the word of its error."""
    try:
        news = call(*values)
    except TooMany as error:
        return f"many {error.limit}"
    except Refused as error:
        return f"refused {pledge_text(error.pledge)}"
    except tuple(WORDS) as error:
        return WORDS[type(error)]
    return ", ".join(f"{fault} {'clear' if clear else 'met'}" for fault, clear in news) or "nothing"


class Commands(unittest.TestCase):
    def test_questions(self):
        for scheme in (DRAGON, FLAKE, LEVY, BACK, ROAD, STAR):
            shell = Shell(write_scheme(scheme))
            asked = 0
            for fault in FAULTS:
                order = first_order(scheme, fault)
                self.assertEqual(shell(f"clear {fault}"), "yes" if order is None else "no")
                self.assertEqual(shell(f"first {fault}"), "none" if order is None else str(order))
                told = shell(f"paper {fault}")
                if order is None:
                    self.assertEqual(told, "clear")
                else:
                    self.assertIs(is_paper(scheme, fault, read_paper(told)), True)
                for number in (0, 3, 200):
                    self.assertEqual(shell(f"count {fault} {number}"), str(count_meetings(scheme, number, fault)))
                self.assertEqual(shell(f"repairs {fault}"), "; ".join(Bench(scheme).repairs(fault)) or "nothing")
                asked += 7
            for order in (0, 7, 200):
                self.assertEqual(shell(f"length {order}"), str(length_of(scheme, order)))
                for number in (0, 1, length_of(scheme, order) - 1):
                    expected = ",".join(str(part) for part in point_at(scheme, order, number))
                    self.assertEqual(shell(f"at {order} {number}"), expected)
                asked += 4
            self.assertEqual(shell("lines"), "; ".join(scheme.lines))
            self.assertEqual(shell("pledges"), "nothing")
            self.assertEqual(len(shell), asked + 2)

    def test_known_answers(self):
        shell = Shell(write_scheme(DRAGON))
        for command, expected in [
                ("first point", "4"), ("length 10", "1024"), ("at 4 7", "-2,1"), ("picture 1", "  +;   |; +-+"),
                ("paper edge", "clear"), ("demand clear edge", "nothing"), ("demand late point 4", "nothing"),
                ("demand draws " + DRAGON_LINES, "nothing"), ("draw rule b b0 a1", "refused clear edge"),
                ("pledges", "clear edge; late point 4; draws " + DRAGON_LINES), ("waive clear edge", "nothing"),
                ("draw rule b b0 a1", "refused draws " + DRAGON_LINES), ("waive draws " + DRAGON_LINES, "nothing"),
                ("draw rule b b0 a1", "edge met, cross met"), ("first cross", "5"), ("undo", "edge clear, cross clear"),
                ("redo", "edge met, cross met"), ("redo", "undo"), ("undo", "edge clear, cross clear"),
                ("waive clear edge", "operation"), ("erase b", "scheme"), ("erase z", "letter"),
                ("draw rule c c0 a1", "nothing"), ("erase c", "nothing"), ("lines", "; ".join(DRAGON.lines))]:
            self.assertEqual(shell.answer(command), expected, command)

    def test_pictures(self):
        for scheme in (DRAGON, LEVY, BACK, ROAD):
            shell = Shell(write_scheme(scheme))
            for order in range(5):
                self.assertEqual(shell(f"picture {order}"), picture(scheme, order).replace("\n", "; "))
            self.assertEqual(shell("picture 9"), "many 400")
            self.assertEqual(shell("picture 201"), "number")
        shell = Shell(write_scheme(FLAKE))
        self.assertEqual([shell("picture 0"), shell("picture 201"), len(shell)], ["operation", "number", 0])

    def test_errors(self):
        shell = Shell(write_scheme(DRAGON))
        for command, expected in [
                ("length 201", "number"), ("length 1" + "0" * 399, "number"), ("at 201 0", "number"), ("at 1 4", "number"),
                ("at 4 17", "number"), ("count point 201", "number"), ("picture 200", "many 400"), ("draw ", "line"),
                ("draw x", "line"), ("draw  axiom a0", "line"), ("draw axiom a0 ", "line"), ("draw axiom a0\n", "line"),
                ("draw axiom c0", "scheme"), ("draw rule a a0 a0", "scheme"), ("draw grid triangle", "point clear"),
                ("draw grid hexagon", "line"), ("undo", "point met"), ("undo", "undo"), ("redo", "point clear"),
                ("redo", "undo"), ("undo", "point met"), ("erase a", "scheme"), ("erase c", "letter"), ("demand late edge 201", "operation"),
                ("demand late edge 200", "nothing"), ("demand late edge 200", "operation"),
                ("waive late edge 201", "operation"), ("waive late edge 199", "operation"),
                ("demand clear point", "refused clear point"), ("demand late point 5", "refused late point 5"),
                ("demand draws x", "line"), ("demand draws ", "line"), ("demand draws " + DRAGON_LINES + ", ", "line"),
                ("demand draws " + DRAGON_LINES.replace(", ", ","), "line"), ("demand draws grid square", "scheme"),
                ("waive draws x", "line"), ("waive draws " + DRAGON_LINES, "operation"),
                ("demand draws " + ", ".join(LEVY.lines), "refused draws " + ", ".join(LEVY.lines)),
                ("demand draws " + ", ".join(DRAGON.lines[::-1]), "nothing"), ("waive late edge 200", "nothing")]:
            before = len(shell)
            self.assertEqual(shell(command), expected, command)
            wrong = expected.split(" ")[0] in [*WORDS.values(), "many", "refused"]
            self.assertEqual(len(shell) - before, 0 if wrong else 1, command)

    def test_lines_that_are_none_and_lines_without_a_scheme(self):
        shell = Shell(write_scheme(DRAGON))
        shell("demand clear edge")
        rules = [f"rule {letter} {letter}0 {letter}0" for letter in "abcdefg"]
        for texts, expected in [
                ("a", "line"), ("", "line"), ("grid square, axiom a", "line"), ("grid square, grid square", "line"),
                ("axiom a0, axiom a0, rule a a0 b1", "line"), ("rule a a0 b1, rule a a0 b1", "line"),
                ("grid square, axiom a0, ", "line"), ("grid square,axiom a0", "line"), ("axiom a0, rule a a0", "line"),
                ("grid square", "scheme"), ("axiom a0", "scheme"), ("rule a a0 a1", "scheme"),
                ("grid square, axiom a0", "scheme"), ("axiom a0, rule a a0 a1", "scheme"),
                ("grid square, axiom a0, rule a a0 b1", "scheme"), ("grid square, axiom a0, rule b b0 b1", "scheme"),
                ("grid square, axiom a0, rule a a0 a2", "scheme"), ("grid square, axiom a0, rule a a0 a4", "scheme"),
                ("grid square, axiom a5, rule a a0 a0", "scheme"),
                ("grid triangle, axiom a0, rule a a0 a2", "scheme"),
                ("grid square, axiom a0, rule a a0 b1, rule b b0 b0", "scheme"),
                (", ".join(["grid square", "axiom a0"] + rules), "scheme"),
                (", ".join(["grid square", "axiom a0"] + rules + ["x"]), "line")]:
            with self.assertRaises({"line": ParseError, "scheme": InvalidScheme}[expected]):
                Scheme.from_lines(*texts.split(", "))
            for word in ("demand", "waive"):
                self.assertEqual(shell(f"{word} draws {texts}"), expected, texts)
        self.assertEqual(len(shell), 1)
        self.assertEqual(shell("pledges"), "clear edge")
        self.assertEqual(shell("undo"), "nothing")
        self.assertEqual([shell("undo"), shell("pledges")], ["undo", "nothing"])

    def test_too_many(self):
        shell = Shell(write_scheme(DRAGON))
        for order in range(10):
            self.assertEqual(shell(f"demand late edge {order}"), "nothing")
        self.assertEqual(shell("demand clear edge"), "many 10")
        with mock.patch("grownlines.use.bench.MAX_TABLE", 100):
            self.assertEqual(shell("draw rule b b0 a1"), "many 100")
        self.assertEqual(shell("draw rule b b0 a1"), "refused late edge 5")
        self.assertEqual(len(shell), 10)

    def test_what(self):
        shell = Shell(write_scheme(DRAGON))
        for value in VALUES + NO_COMMANDS + [("undo",), ["undo"], b"undo"]:
            self.assertEqual(shell(value), "what", value)
            self.assertEqual(shell.answer(value), "what")
        self.assertEqual(len(shell), 0)
        self.assertEqual(shell.bench(), Bench(DRAGON))


class Histories(unittest.TestCase):
    def commands(self, draw):
        pledges = [("clear", fault) for fault in FAULTS] + [("late", fault, order) for fault in FAULTS
                                                            for order in (0, 4, 5)] + [("draws", DRAGON), ("draws", LEVY)]
        name = draw.choice(["draw"] * 5 + ["erase", "demand", "demand", "waive", "undo", "undo", "redo"])
        if name == "draw":
            return (name, draw.choice(LINES))
        if name == "erase":
            return (name, draw.choice("abcz"))
        return (name, draw.choice(pledges)) if name in ("demand", "waive") else (name,)

    def test_drawn_histories(self):
        seen = {}
        for seed in range(8):
            draw = random.Random(seed)
            shell, bench = Shell(write_scheme(DRAGON)), Bench(DRAGON)
            many = 0
            for _ in range(120):
                name, *values = self.commands(draw)
                text = " ".join([name] + [own if isinstance(own, str) else pledge_text(own) for own in values])
                expected = answered(getattr(bench, name), *values)
                self.assertEqual(shell(text), expected, text)
                many += expected.split(" ")[0] not in [*WORDS.values(), "many", "refused"]
                self.assertEqual(len(shell), many)
                self.assertTrue(shell.bench() == bench)
                self.assertEqual(shell("lines"), "; ".join(bench))
                self.assertEqual(shell("pledges"), "; ".join(pledge_text(own) for own in bench.pledges) or "nothing")
                many += 2
                seen[expected.split(" ")[0]] = True
        for word in ("line", "scheme", "operation", "letter", "undo", "refused", "nothing", "edge"):
            self.assertIn(word, seen)

    def test_the_bench_is_a_twin(self):
        shell = Shell(write_scheme(DRAGON))
        shell("demand clear edge")
        shell("draw axiom a0 b1")
        twin = shell.bench()
        self.assertIsInstance(twin, Bench)
        twin.undo()
        self.assertEqual((twin.scheme, twin.pledges), (DRAGON, (("clear", "edge"),)))
        twin.undo()
        twin.draw("rule b b0 a1")
        self.assertEqual(shell("lines"), "; ".join(DRAGON.with_line("axiom a0 b1").lines))
        self.assertEqual([shell("undo"), shell("undo"), shell("undo")], ["nothing", "nothing", "undo"])
        self.assertEqual(twin.scheme, DRAGON.with_line("rule b b0 a1"))


class Errors(unittest.TestCase):
    def test_texts(self):
        for value in [value for value in VALUES if not isinstance(value, str)] + [DRAGON, DRAGON.lines]:
            self.assertIsNone(raised_by(self, ParseError, Shell, value).number)
        for value, number in [("", 0), ("grid square\naxiom", 1), (write_scheme(DRAGON) + "\n", 4)]:
            self.assertEqual(raised_by(self, ParseError, Shell, value).number, number)
        raised_by(self, InvalidScheme, Shell, "grid square\naxiom a0")
        self.assertEqual(raised_by(self, TooMany, Shell, write_scheme(DENSE)).limit, 20000)


if __name__ == "__main__":
    unittest.main()
