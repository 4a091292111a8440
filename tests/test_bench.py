import functools
import random
import unittest
from unittest import mock

from grownlines.decide.likeness import are_alike
from grownlines.decide.papers import first_order, is_clear
from grownlines.errors import (InvalidNumber, InvalidOperation, InvalidScheme, NothingToUndo, ParseError, Refused,
                               TooMany, UnknownLetter)
from grownlines.lines.schemes import Scheme
from grownlines.use import bench as module
from grownlines.use.bench import Bench
from grownlines.visits.meetings import FAULTS

from tests.helpers import (BACK, DRAGON, FLAKE, LEVY, LOOP, ROAD, STAR, TWO, UNEVEN, VALUES, others, raised_by, same,
                           within)
from tests.test_likeness import TWINS
from tests.test_tables import DENSE, is_scheme

ERRORS = (InvalidNumber, InvalidOperation, InvalidScheme, NothingToUndo, ParseError, Refused, TooMany, UnknownLetter)

LINES = ["axiom a0", "axiom a0 b1", "axiom b2", "axiom a0 a1 a2 a3", "rule a a0 b1", "rule a a0 a1", "rule a a1 a0",
         "rule b a1 b0", "rule b b0 a1", "rule b b0 b1", "rule c c0 b1", "rule c a0 a1", "rule a b0 a1", "rule a a0 a0",
         "grid triangle", "grid square", "rule d", "", "rule a a0 a2", "nothing"]
WRONG = [("clear",), ("clear", "points"), ("clear", "edge", 0), ("late", "edge"), ("late", "edge", -1),
         ("late", "edge", 201), ("late", "edge", True), ("late", "edge", None), ("late", "edges", 1),
         ("late", "point", 10 ** 400), ("draws",), ("draws", None), ("draws", DRAGON.lines), ("draws", DRAGON, 0),
         ["clear", "edge"], "clear edge", ("Clear", "edge"), (None, "edge"), ("clear", ["edge"]), ("draws", Bench),
         ("late", 3, "edge"), ("late", "edge", (3,)), (("clear", "edge"),)]


@functools.cache
def orders_by_lines(lines):
    scheme = Scheme.from_lines(*lines)
    return {fault: first_order(scheme, fault) for fault in FAULTS}


def orders_of(scheme):
    return orders_by_lines(scheme.lines)


def held(pledge, scheme):
    """Whether a pledge holds, by what the document says of it."""
    if pledge[0] == "clear":
        return orders_of(scheme)[pledge[1]] is None
    if pledge[0] == "late":
        return orders_of(scheme)[pledge[1]] is None or not orders_of(scheme)[pledge[1]] < pledge[2]
    if scheme == pledge[1]:
        return True
    try:
        return are_alike(scheme, pledge[1])
    except InvalidOperation:
        return False


class Model:
    """All states of a bench, and which one it has."""

    def __init__(self, scheme):
        self.states = [(scheme, ())]
        self.at = 0

    def now(self):
        return self.states[self.at]

    def put(self, state):
        self.states = self.states[:self.at + 1] + [state]
        return self.go(self.at + 1)

    def go(self, at):
        before, self.at = orders_of(self.now()[0]), at
        after = orders_of(self.now()[0])
        return tuple((fault, after[fault] is None) for fault in FAULTS
                     if (after[fault] is None) is not (before[fault] is None))

    def change(self, scheme):
        orders_of(scheme)
        for pledge in self.now()[1]:
            if not held(pledge, scheme):
                raise Refused(pledge)
        return self.put((scheme, self.now()[1]))

    def draw(self, line):
        return self.change(self.now()[0].with_line(line))

    def erase(self, letter):
        return self.change(self.now()[0].without(letter))

    def demand(self, pledge):
        scheme, pledges = self.now()
        if pledge in WRONG or pledge in pledges:
            raise InvalidOperation("")
        if len(pledges) == 10:
            raise TooMany(10)
        if not held(pledge, scheme):
            raise Refused(pledge)
        return self.put((scheme, pledges + (pledge,)))

    def waive(self, pledge):
        scheme, pledges = self.now()
        if pledge in WRONG or pledge not in pledges:
            raise InvalidOperation("")
        return self.put((scheme, tuple(own for own in pledges if own != pledge)))

    def undo(self, *, many=1):
        if self.at - many < 0:
            raise NothingToUndo(many)
        return self.go(self.at - many)

    def redo(self, *, many=1):
        if self.at + many >= len(self.states):
            raise NothingToUndo(many)
        return self.go(self.at + many)


def outcome(call, *values, **named):
    """What a call returns, or the class of its error and what this keeps."""
    try:
        return ("news", call(*values, **named))
    except ERRORS as error:
        return (type(error), vars(error))


def drawn_call(draw, pledges):
    name = draw.choice(["draw"] * 6 + ["erase", "demand", "demand", "waive", "undo", "undo", "redo", "redo"])
    if name == "draw":
        return (name, (draw.choice(LINES),), {})
    if name == "erase":
        return (name, (draw.choice("abcz"),), {})
    if name in ("demand", "waive"):
        return (name, (draw.choice(pledges),), {})
    return (name, (), draw.choice([{}, {"many": draw.randrange(4)}, {"many": draw.choice([0, 1, 1000])}]))


class Histories(unittest.TestCase):
    pledges = [("clear", fault) for fault in FAULTS] + [("late", fault, order) for fault in FAULTS for order in (0, 4, 5)] + [
        ("draws", DRAGON), ("draws", LEVY), ("draws", TWINS), ("draws", FLAKE), ("late", "edge", 200)] + WRONG[:6]

    def check(self, bench, model):
        scheme, pledges = model.now()
        self.assertEqual(bench.scheme, scheme)
        self.assertTrue(same(bench.pledges, pledges) or bench.pledges == pledges)
        self.assertEqual(list(bench), list(scheme.lines))
        self.assertEqual(len(bench), len(scheme.lines))
        self.assertEqual(str(bench), f"bench with {len(scheme.lines)} lines, {len(pledges)} pledges")

    def test_drawn_histories(self):
        seen = {}
        for seed in range(12):
            draw = random.Random(seed)
            begin = draw.choice([DRAGON, LEVY, BACK, ROAD])
            bench, model = Bench(begin), Model(begin)
            for _ in range(150):
                name, values, named = drawn_call(draw, self.pledges)
                found = outcome(getattr(bench, name), *values, **named)
                expected = outcome(getattr(model, name), *values, **named)
                self.assertEqual(found, expected, (name, values, named))
                self.check(bench, model)
                seen[(name, str(found[0]), found[1] == ())] = True
        for name in ("draw", "undo", "redo"):
            self.assertIn((name, "news", True), seen)
            self.assertIn((name, "news", False), seen)
        for name, error in [("draw", ParseError), ("draw", InvalidScheme), ("draw", Refused), ("demand", Refused),
                            ("erase", UnknownLetter), ("undo", NothingToUndo), ("redo", NothingToUndo),
                            ("demand", InvalidOperation), ("waive", InvalidOperation)]:
            self.assertIn((name, str(error), False), seen, name)

    def test_news(self):
        bench = Bench(DRAGON)
        self.assertEqual(bench.draw("rule b b0 a1"), (("edge", False), ("cross", False)))
        self.assertEqual(bench.draw("rule b b0 a1"), ())
        self.assertEqual(bench.draw("axiom a0"), ())
        self.assertEqual(bench.draw("rule b a1 b0"), (("edge", True), ("cross", True)))
        self.assertEqual(bench.demand(("clear", "edge")), ())
        # Several changes are told as one.
        self.assertEqual(bench.undo(many=2), (("edge", False), ("cross", False)))
        self.assertEqual(bench.undo(many=3), (("edge", True), ("cross", True)))
        self.assertEqual(bench.redo(many=4), ())
        self.assertEqual(bench.redo(many=1), ())
        self.assertEqual(bench.pledges, (("clear", "edge"),))
        raised_by(self, NothingToUndo, bench.redo)
        self.assertEqual(bench.undo(many=0), ())
        self.assertEqual(bench.undo(many=5), ())
        self.assertEqual((bench.scheme, bench.pledges), (DRAGON, ()))

    def test_another_change_ends_what_can_be_done_again(self):
        for change in ("draw", "erase", "demand", "waive"):
            bench = Bench(DRAGON.with_line("rule c c0 c1"))
            bench.demand(("late", "point", 0))
            bench.draw("axiom a0 b1")
            bench.undo()
            value = {"draw": "axiom a0", "erase": "c", "demand": ("clear", "edge"), "waive": ("late", "point", 0)}[change]
            getattr(bench, change)(value)
            self.assertEqual(raised_by(self, NothingToUndo, bench.redo).many, 1)
            bench.undo(many=2)
            self.assertEqual(bench.redo(many=2), ())
        # What raises is no change.
        bench = Bench(DRAGON)
        bench.draw("axiom a0 b1")
        bench.undo()
        raised_by(self, ParseError, bench.draw, "axiom")
        raised_by(self, UnknownLetter, bench.erase, "z")
        raised_by(self, InvalidOperation, bench.waive, ("clear", "edge"))
        raised_by(self, NothingToUndo, bench.undo)
        bench.redo()
        self.assertEqual(bench.scheme, DRAGON.with_line("axiom a0 b1"))


class Pledges(unittest.TestCase):
    def test_the_constant(self):
        self.assertEqual(module.MAX_PLEDGES, 10)

    def test_wrong_ones(self):
        bench = Bench(DRAGON)
        bench.demand(("late", "edge", 1))
        for value in VALUES + WRONG + [("late", "edge", 1)]:
            raised_by(self, InvalidOperation, bench.demand, value)
        for value in VALUES + WRONG + [("clear", "edge"), ("late", "edge", True), ("late", "edge", 0),
                                       ["late", "edge", 1]]:
            raised_by(self, InvalidOperation, bench.waive, value)
            self.assertIs(value in bench, False)
        self.assertEqual(bench.pledges, (("late", "edge", 1),))
        self.assertEqual(bench.waive(("late", "edge", 1)), ())
        self.assertEqual(bench.pledges, ())

    def test_ten(self):
        bench = Bench(DRAGON)
        for order in range(10):
            bench.demand(("late", "edge", order))
        for pledge in [("late", "edge", 10), ("clear", "point"), ("clear", "edge"), ("draws", LEVY)]:
            self.assertEqual(raised_by(self, TooMany, bench.demand, pledge).limit, 10)
        for wrong in [("late", "edge", 3), ("late", "edge", 201)]:
            raised_by(self, InvalidOperation, bench.demand, wrong)
        self.assertEqual(str(bench), "bench with 4 lines, 10 pledges")
        bench.waive(("late", "edge", 4))
        bench.demand(("draws", DRAGON))
        self.assertEqual([pledge[-1] for pledge in bench.pledges], [0, 1, 2, 3, 5, 6, 7, 8, 9, DRAGON])

    def test_refused(self):
        bench = Bench(DRAGON)
        for pledge in [("clear", "point"), ("late", "point", 5), ("late", "point", 200), ("draws", LEVY),
                       ("draws", FLAKE), ("draws", UNEVEN)]:
            self.assertIs(raised_by(self, Refused, bench.demand, pledge).pledge, pledge)
        for pledge in [("late", "point", 4), ("late", "point", 0), ("late", "edge", 200), ("clear", "cross"),
                       ("draws", TWINS), ("draws", DRAGON)]:
            self.assertEqual(bench.demand(pledge), ())
        self.assertEqual(len(bench.pledges), 6)

    def test_order_0(self):
        for scheme in (LOOP, STAR, TWO):
            bench = Bench(scheme)
            for fault in FAULTS:
                self.assertEqual(bench.demand(("late", fault, 0)), ())
                if orders_of(scheme)[fault] == 0:
                    raised_by(self, Refused, bench.demand, ("late", fault, 1))

    def test_draws(self):
        # A scheme equals itself, though it cannot be compared.
        bench = Bench(UNEVEN)
        self.assertEqual(bench.demand(("draws", Scheme.from_lines(*UNEVEN.lines))), ())
        raised_by(self, Refused, bench.demand, ("draws", UNEVEN.without("z")))
        bench = Bench(DRAGON)
        bench.demand(("draws", TWINS))
        self.assertEqual(bench.draw("rule z z0 z1"), ())
        raised_by(self, Refused, bench.draw, "rule y y0 y1 y0 y2")
        self.assertEqual(raised_by(self, Refused, bench.draw, "rule b b0 a1").pledge, ("draws", TWINS))
        # The same lines with unequally many items in an unused rule cannot be compared.
        raised_by(self, Refused, Bench(DRAGON.with_line("rule y y0 y1 y0 y2")).demand, ("draws", DRAGON))

    def test_the_first_one_is_told(self):
        pledges = [("late", "cross", 9), ("clear", "edge"), ("late", "edge", 5), ("clear", "cross")]
        for first in range(4):
            bench = Bench(DRAGON)
            ordered = pledges[first:] + pledges[:first]
            for pledge in ordered:
                bench.demand(pledge)
            self.assertEqual(raised_by(self, Refused, bench.draw, "rule b b0 a1").pledge, ordered[0])
            self.assertEqual(raised_by(self, Refused, bench.draw, "rule b b0 b1").pledge, ordered[0])
            self.assertEqual((bench.scheme, list(bench.pledges)), (DRAGON, ordered))

    def test_errors_of_tables_come_first(self):
        bench = Bench(DRAGON)
        bench.demand(("clear", "edge"))
        with mock.patch("grownlines.use.bench.MAX_TABLE", 100):
            self.assertEqual(raised_by(self, TooMany, bench.draw, "rule b b0 a1").limit, 100)
            self.assertEqual(raised_by(self, TooMany, Bench, DRAGON).limit, 100)
            raised_by(self, InvalidScheme, bench.draw, "rule b b0 b0")
            raised_by(self, ParseError, bench.draw, "rule b b0")
        self.assertEqual(bench.scheme, DRAGON)
        raised_by(self, Refused, bench.draw, "rule b b0 a1")


class Repairs(unittest.TestCase):
    def plain(self, scheme, fault):
        """The lines with each exchange, one after the other."""
        found = []
        for letter in scheme:
            row = list(scheme[letter].row)
            for at in range(len(row) - 1):
                swapped = row[:at] + [row[at + 1], row[at]] + row[at + 2:]
                line = f"rule {letter} " + " ".join(f"{own}{turn}" for own, turn in swapped)
                try:
                    if swapped != row and is_clear(scheme.with_line(line), fault):
                        found.append(line)
                except TooMany:
                    pass
        return tuple(sorted(found))

    def test_each_exchange(self):
        seen = {}
        bent = Scheme.from_lines("grid square", "axiom a0", "rule a a0 a1 a3 a0 a0", "rule b a0 a0 a1 a3 b0")
        mixed = Scheme.from_lines("grid triangle", "axiom a0 a4 a2", "rule a a0 b1 b5 a0", "rule b b1 a0 a0 a5")
        for scheme in (DRAGON, LEVY, FLAKE, bent, mixed, BACK, ROAD, DRAGON.with_line("rule c b0 a1")):
            bench = Bench(scheme)
            for fault in FAULTS:
                expected = self.plain(scheme, fault)
                self.assertTrue(same(bench.repairs(fault), expected), (scheme.lines, fault))
                seen[len(expected)] = True
            self.assertEqual(bench.scheme, scheme)
            raised_by(self, NothingToUndo, bench.undo)
        self.assertIn(0, seen)
        self.assertGreater(max(seen), 2)

    def test_too_many_stands_count_as_not_clear(self):
        bench = Bench(FLAKE)
        self.assertEqual(bench.repairs("cross"), self.plain(FLAKE, "cross"))
        self.assertNotEqual(bench.repairs("cross"), ())
        with mock.patch("grownlines.use.bench.MAX_TABLE", 10):
            self.assertEqual(bench.repairs("cross"), ())

    def test_what_is_no_fault(self):
        bench = Bench(ROAD)
        for value in others() + ["points", ("edge",), 0]:
            raised_by(self, InvalidOperation, bench.repairs, value)


class Trials(unittest.TestCase):
    def begun(self):
        bench = Bench(DRAGON)
        bench.demand(("late", "point", 1))
        bench.draw("axiom a0 b1")
        bench.draw("axiom b0")
        bench.undo()
        return bench

    def kept(self, bench):
        return (bench.scheme, bench.pledges, str(bench), list(bench))

    def check_as_begun(self, bench):
        """Whether a bench has what `begun` left, with all to take back and to do again."""
        self.assertEqual(self.kept(bench), self.kept(self.begun()))
        self.assertEqual(outcome(bench.redo, many=2), (NothingToUndo, {"many": 2}))
        bench.redo()
        self.assertEqual(bench.scheme, DRAGON.with_line("axiom b0"))
        bench.undo(many=3)
        self.assertEqual((bench.scheme, bench.pledges), (DRAGON, ()))
        self.assertEqual(outcome(bench.undo), (NothingToUndo, {"many": 1}))

    def test_blocks(self):
        bench = self.begun()
        with bench.trial() as held_bench:
            self.assertIs(held_bench, bench)
            bench.waive(("late", "point", 1))
            bench.draw("rule b b0 a1")
            self.assertEqual(len(bench.pledges), 0)
        self.check_as_begun(bench)

    def test_undo_and_redo_across_the_block(self):
        for calls in [[("undo", 2)], [("redo", 1)], [("undo", 1), ("redo", 2)], [("undo", 2), ("redo", 1)], []]:
            bench = self.begun()
            with bench.trial():
                for name, many in calls:
                    getattr(bench, name)(many=many)
                bench.demand(("clear", "edge"))
            self.check_as_begun(bench)

    def test_errors_go_on(self):
        bench = self.begun()
        with self.assertRaises(KeyError):
            with bench.trial():
                bench.draw("axiom a0")
                raise KeyError("own")
        self.check_as_begun(bench)
        bench = self.begun()
        with self.assertRaises(ParseError):
            with bench.trial() as same_bench:
                same_bench.undo()
                same_bench.draw("")
        self.check_as_begun(bench)

    def test_nested_blocks(self):
        bench = self.begun()
        with bench.trial():
            bench.draw("axiom a0")
            inner = self.kept(bench)
            with bench.trial():
                bench.undo(many=3)
            self.assertEqual(self.kept(bench), inner)
            bench.undo()
            self.assertEqual(self.kept(bench), self.kept(self.begun()))
        self.check_as_begun(bench)
        # One trial, begun again inside its own block, and behind it.
        bench = self.begun()
        trial = bench.trial()
        with trial:
            bench.draw("axiom a0")
            inner = self.kept(bench)
            with trial as again:
                self.assertIs(again, bench)
                bench.undo(many=2)
            self.assertEqual(self.kept(bench), inner)
        bench.redo()
        with trial:
            bench.undo(many=3)
        self.assertEqual(bench.scheme, DRAGON.with_line("axiom b0"))
        bench.undo()
        self.check_as_begun(bench)

    def test_during(self):
        bench = self.begun()

        def called(own):
            self.assertIs(own, bench)
            own.undo(many=2)
            return own.draw("rule b b0 a1")

        self.assertEqual(bench.during(called), (("edge", False), ("cross", False)))
        self.assertEqual(bench.during(lambda own: None), None)
        with self.assertRaises(NothingToUndo):
            bench.during(lambda own: own.undo(many=9))
        self.check_as_begun(bench)

    def test_twins(self):
        bench = self.begun()
        twin = bench.twin()
        self.assertIs(type(twin), Bench)
        self.assertTrue(twin == bench)
        twin.redo()
        twin.demand(("clear", "cross"))
        self.assertFalse(twin == bench)
        self.check_as_begun(bench.twin())
        self.check_as_begun(bench)
        bench.draw("rule b b0 a1")
        self.assertEqual(twin.scheme, DRAGON.with_line("axiom b0"))
        self.assertEqual(outcome(twin.undo, many=5), (NothingToUndo, {"many": 5}))
        twin.undo(many=4)
        self.assertEqual((twin.scheme, twin.pledges), (DRAGON, ()))
        with bench.trial():
            other = bench.twin()
            bench.draw("axiom a0 a1 a2")
        self.assertEqual(other.scheme, DRAGON.with_line("rule b b0 a1"))


class Values(unittest.TestCase):
    def test_membership(self):
        bench = Bench(DRAGON)
        pledges = [("clear", "edge"), ("late", "point", 1), ("draws", DRAGON)]
        for pledge in pledges:
            bench.demand(pledge)
        for value in [*DRAGON.lines, *pledges, ("draws", Scheme.from_lines(*DRAGON.lines))]:
            self.assertIs(value in bench, True)
        for value in VALUES + ["a", "rule c a0 b1", "axiom a0 ", ("clear", "cross"), ("late", "point", True),
                               ["clear", "edge"], ("draws", LEVY), ("late", "point", 0), DRAGON, DRAGON.lines]:
            self.assertIs(value in bench, False)
        self.assertEqual((len(bench), list(bench)), (4, list(DRAGON.lines)))

    def test_equality(self):
        one, other = Bench(DRAGON), Bench(Scheme.from_lines(*DRAGON.lines[::-1]))
        self.assertTrue(one == other)
        other.draw("axiom b0")
        self.assertTrue(one != other)
        other.undo()
        # What can be taken back or done again does not matter.
        self.assertTrue(one == other)
        one.demand(("clear", "edge"))
        one.demand(("clear", "cross"))
        self.assertFalse(one == other)
        other.demand(("clear", "cross"))
        other.demand(("clear", "edge"))
        self.assertFalse(one == other)
        for value in VALUES + [DRAGON.lines, str(one), (DRAGON, one.pledges)]:
            self.assertIs(one == value, False)
            self.assertIs(value == one, False)
            self.assertIs(one != value, True)

    def test_what_is_no_scheme(self):
        for value in others(is_scheme) + [DRAGON.lines]:
            raised_by(self, InvalidScheme, Bench, value)
        self.assertEqual(raised_by(self, TooMany, Bench, DENSE).limit, 20000)

    def test_errors_of_changes(self):
        bench = Bench(DRAGON)
        for value in VALUES + ["rule", "axiom", "rule c a0", "grid"]:
            self.assertIsNone(raised_by(self, ParseError, bench.draw, value).number)
        for line in ["rule a a0 a0", "axiom c0", "axiom a4", "rule a a0 c1"]:
            raised_by(self, InvalidScheme, bench.draw, line)
        for value in [value for value in VALUES if value != "a"] + ["c", ("a",)]:
            self.assertIs(raised_by(self, UnknownLetter, bench.erase, value).word, value)
        raised_by(self, InvalidScheme, bench.erase, "a")
        for call in (bench.undo, bench.redo):
            for value in others(within(0, 10 ** 400 - 1)) + [-1]:
                self.assertIs(raised_by(self, InvalidNumber, call, many=value).value, value)
            for value in (1, 2, 10 ** 399):
                self.assertEqual(raised_by(self, NothingToUndo, call, many=value).many, value)
            self.assertEqual(call(many=0), ())
        self.assertEqual((bench.scheme, bench.pledges), (DRAGON, ()))


if __name__ == "__main__":
    unittest.main()
