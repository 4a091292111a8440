import random
import unittest

from grownlines.decide.papers import is_paper, paper
from grownlines.errors import InvalidOperation, InvalidPaper, InvalidScheme, InvalidStand, ParseError
from grownlines.lines.schemes import Scheme
from grownlines.text.texts import (read_address, read_paper, read_scheme, read_stand, write_address, write_paper,
                                   write_scheme, write_stand)
from grownlines.visits.meetings import FAULTS

from tests.helpers import BACK, DRAGON, FLAKE, LEVY, MIXED, UNEVEN, VALUES, others, raised_by, same
from tests.test_tables import is_scheme, small

GREAT = 10 ** 400 - 1
SIGNS = "abz019-+./, \n" + "_~"


def drawn_kind(draw):
    before, after = draw.choice(["", "a", "z"]), draw.choice(["a", "q"])
    if draw.random() < 0.2:
        return (after, "", 0)
    return (before, after, 0 if before == "" else draw.randrange(6))


def drawn_stand(draw):
    vector = tuple(draw.choice([0, 1, -1, 10, -307, GREAT, -GREAT]) for _ in range(2))
    return (drawn_kind(draw), drawn_kind(draw), draw.randrange(6), vector)


def drawn_address(draw, many=None):
    return tuple(draw.choice([0, 1, 9, 10, 11, 123, 10 ** 30]) for _ in range(many or draw.randrange(1, 6)))


def plain_kind(kind):
    return ".".join([kind[0] or "-", kind[1] or "-", str(kind[2])])


def plain_stand(stand):
    kind, other, turn, vector = stand
    return " ".join([plain_kind(kind), plain_kind(other), str(turn), ",".join(str(part) for part in vector)])


def changed_texts(draw, text, many):
    """Texts with one sign left out, put in or exchanged."""
    for _ in range(many):
        at = draw.randrange(len(text) + 1)
        sign = draw.choice(SIGNS)
        yield draw.choice([text[:at] + text[at + 1:], text[:at] + sign + text[at:], text[:at] + sign + text[at + 1:]])


class Changed(unittest.TestCase):
    def check(self, read, write, texts):
        """Each text is read only if it is the text of something, which is then written back as it is."""
        read_ones = 0
        for text in texts:
            try:
                value = read(text)
            except (ParseError, InvalidScheme):
                continue
            self.assertEqual(write(value), text)
            read_ones += 1
        return read_ones

    def test_stands(self):
        draw = random.Random(1)
        texts = [own for _ in range(150) for own in changed_texts(draw, plain_stand(drawn_stand(draw)), 20)]
        self.assertGreater(self.check(read_stand, write_stand, texts), 300)

    def test_addresses(self):
        draw = random.Random(2)
        texts = [own for _ in range(100) for own in changed_texts(draw, write_address(drawn_address(draw)), 20)]
        self.assertGreater(self.check(read_address, write_address, texts), 300)

    def test_papers(self):
        draw = random.Random(3)
        texts = []
        for _ in range(60):
            kinds = tuple(sorted({drawn_kind(draw) for _ in range(3)}))
            stands = tuple(sorted({drawn_stand(draw) for _ in range(3)}))
            pair = sorted({drawn_address(draw, 3) for _ in range(5)})[:2]
            for value in [("clear", kinds, stands), ("meets", *pair)]:
                texts += list(changed_texts(draw, write_paper(value), 25))
        self.assertGreater(self.check(read_paper, write_paper, texts), 100)

    def test_schemes(self):
        draw = random.Random(4)
        texts = [own for scheme in MIXED for own in changed_texts(draw, write_scheme(scheme), 60)]
        read_ones = 0
        for text in texts:
            try:
                scheme = read_scheme(text)
            except (ParseError, InvalidScheme):
                continue
            # The lines of a scheme may stand in any order.
            self.assertEqual(sorted(write_scheme(scheme).split("\n")), sorted(text.split("\n")))
            read_ones += 1
        self.assertGreater(read_ones, 30)


class Schemes(unittest.TestCase):
    def test_there_and_back(self):
        for scheme in MIXED:
            text = write_scheme(scheme)
            self.assertEqual(text, "\n".join(scheme.lines))
            self.assertEqual(read_scheme(text), scheme)
            self.assertEqual(read_scheme("\n".join(scheme.lines[::-1])), scheme)

    def test_errors(self):
        for value in others(is_scheme):
            raised_by(self, InvalidScheme, write_scheme, value)
        for value in [value for value in VALUES if not isinstance(value, str)] + [DRAGON.lines]:
            self.assertIsNone(raised_by(self, ParseError, read_scheme, value).number)
        text = write_scheme(DRAGON)
        for value, number in [("", 0), ("\n" + text, 0), (text + "\n", 4), (text.replace("\n", "\n\n", 1), 1),
                              (text + "\nrule a a0 b1", 4), ("rule a a0 b1\n" + text, 3), (text + "\nGrid square", 4),
                              (text.replace("rule b", "rule  b"), 3), (text + " ", 3), (" " + text, 0),
                              (text.replace("a0 b1", "a00 b1"), 2), ("grid square\ngrid triangle", 1)]:
            self.assertEqual(raised_by(self, ParseError, read_scheme, value).number, number)
        for value in ["grid square", "grid square\naxiom a0", "axiom a0\nrule a a0 a1", text + "\nrule c c0 c0"]:
            raised_by(self, InvalidScheme, read_scheme, value)


class Stands(unittest.TestCase):
    def test_there_and_back(self):
        draw = random.Random(5)
        for _ in range(400):
            stand = drawn_stand(draw)
            self.assertEqual(write_stand(stand), plain_stand(stand))
            self.assertTrue(same(read_stand(plain_stand(stand)), stand))
        for scheme, table in small():
            for stand in table.stands[:50]:
                self.assertTrue(same(read_stand(write_stand(stand)), stand))

    def test_what_is_no_stand(self):
        good = (("a", "b", 1), ("", "a", 0), 2, (-1, 3))
        wrong = [list(good), good[:3], good + (0,), (("a", "b", 6), *good[1:]), (("a", "b", True), *good[1:]),
                 (("", "b", 1), *good[1:]), (("", "", 0), *good[1:]), (("A", "b", 1), *good[1:]),
                 (("a", "-", 0), *good[1:]), (["a", "b", 1], *good[1:]), (*good[:2], 6, (0, 0)), (*good[:2], -1, (0, 0)),
                 (*good[:2], True, (0, 0)), (*good[:2], 0, [0, 0]), (*good[:2], 0, (0, True)), (*good[:2], 0, (0,)),
                 (*good[:2], 0, (GREAT + 1, 0)), (*good[:2], 0, (0, 0, 0)), (("ab", "b", 1), *good[1:])]
        for value in VALUES + wrong:
            raised_by(self, InvalidStand, write_stand, value)
        for at in range(4):
            for value in VALUES:
                changed = good[:at] + (value,) + good[at + 1:]
                try:
                    text = write_stand(changed)
                except InvalidStand:
                    continue
                self.assertTrue(same(read_stand(text), changed))

    def test_what_is_no_text(self):
        good = "a.b.1 -.a.0 2 -1,3"
        for value in VALUES + [good + " ", " " + good, good.replace(" ", "  ", 1), good + "\n", "\n" + good,
                               "a.b.01 -.a.0 2 -1,3", "a.b.1 -.a.0 02 -1,3", "a.b.1 -.a.0 2 -01,3", "a.b.1 -.a.0 2 +1,3",
                               "a.b.1 -.a.0 2 -0,3", "a.b.1 -.a.0 2 1,-0", "a.b.1 -.-.0 2 -1,3", "a.b.1 -.a.1 2 -1,3",
                               "a.b.6 -.a.0 2 -1,3", "a.b.1 -.a.0 6 -1,3", "a.b.1 -.a.0 -2 -1,3", "a.b.-1 -.a.0 2 -1,3",
                               "a.b.1 .a.0 2 -1,3", "a.b.1 -a.a.0 2 -1,3", "a.b.1 --.a.0 2 -1,3", "a.b.1 -.a.0 2 -1,3,0",
                               "a.b.1 -.a.0 2 -1", "a.b.1 -.a.0 2 -1, 3", "A.b.1 -.a.0 2 -1,3", "a.b -.a.0 2 -1,3",
                               "a.b.1 -.a.0 2 1_0,3", "a.b.1 -.a.0 2 1" + "0" * 400 + ",3", "a.b.1.0 -.a.0 2 -1,3",
                               "a.b.1 -.a.0 2 -1,3 ", "a.b.1 -.a.0 2 --1,3", "a.b.1 -.a.0 2 ,3", "a.b.1 -.a.0  -1,3",
                               good.encode(), [good]]:
            self.assertIsNone(raised_by(self, ParseError, read_stand, value).number)


class Addresses(unittest.TestCase):
    def test_there_and_back(self):
        draw = random.Random(6)
        for _ in range(200):
            address = drawn_address(draw)
            text = "/".join(str(number) for number in address)
            self.assertEqual(write_address(address), text)
            self.assertTrue(same(read_address(text), address))
        self.assertEqual(read_address(str(GREAT)), (GREAT,))

    def test_long_ones(self):
        long = (0,) * 20000 + (7,)
        self.assertEqual(write_address(long), "0/" * 20000 + "7")
        self.assertEqual(read_address("0/" * 20000 + "7"), long)
        raised_by(self, InvalidOperation, write_address, (0,) * 20002)
        self.assertIsNone(raised_by(self, ParseError, read_address, "0/" * 20001 + "0").number)

    def test_what_is_none(self):
        for value in [value for value in VALUES if value not in [(1,), (1, 2), (1, 2, 3)]] + [
                (), (-1,), (0, True), (GREAT + 1,), [0, 1], (0, (1,)), (0, "1"), (None,), (0, 1.5)]:
            raised_by(self, InvalidOperation, write_address, value)
        digits = ["0", "1", "7"]
        for value in [value for value in VALUES if value not in digits] + [
                "", "/", "0/", "/0", "0//1", "00", "01", "0/01", "+1", "-1", "-0", "0/-0", " 0", "0 ", "0/ 1", "0\n",
                "1" + "0" * 400, "0/1/a", "0,1", (0, 1), 0, "0/1\n"]:
            self.assertIsNone(raised_by(self, ParseError, read_address, value).number)


class Papers(unittest.TestCase):
    def test_there_and_back(self):
        for scheme, table in small():
            for fault in FAULTS:
                value = paper(scheme, fault)
                text = write_paper(value)
                self.assertTrue(same(read_paper(text), value))
                self.assertIs(is_paper(scheme, fault, read_paper(text)), True)
                if value[0] == "clear":
                    lines = ["clear"] + [f"kind {plain_kind(kind)}" for kind in value[1]]
                    self.assertEqual(text.split("\n"), lines + [plain_stand(stand) for stand in value[2]])
                else:
                    self.assertEqual(text, f"meets {write_address(value[1])} {write_address(value[2])}")

    def test_forms(self):
        self.assertEqual(write_paper(("clear", (), ())), "clear")
        self.assertEqual(read_paper("clear"), ("clear", (), ()))
        for value in [("clear", (("", "a", 0),), ()), ("clear", (), ((("a", "", 0), ("z", "a", 5), 5, (0, GREAT)),)),
                      ("meets", (0,), (GREAT,)), ("meets", (0,) * 20001, (0,) * 20000 + (1,))]:
            self.assertTrue(same(read_paper(write_paper(value)), value))

    def test_what_is_no_paper(self):
        kind, other = ("a", "b", 1), ("b", "b", 1)
        stand, later = (kind, kind, 0, (0, 0)), (kind, kind, 0, (0, 1))
        good = ("clear", (kind, other), (stand, later))
        self.assertEqual(read_paper(write_paper(good)), good)
        wrong = [list(good), good[:2], good + ((),), ("clear", (other, kind), ()), ("clear", (kind, kind), ()),
                 ("clear", (), (later, stand)), ("clear", (), (stand, stand)), ("clear", [kind], ()),
                 ("clear", (), [stand]), ("clear", (stand,), (kind,)), ("meets", (kind,), (stand,)), ("Clear", (), ()),
                 ("clear", (("a", "b", True),), ()), ("clear", (("a", "b", 6),), ()), (None, (), ()), ("clear", (), None),
                 ("meets", (0, 1), (0, 1)), ("meets", (0, 2), (0, 1)), ("meets", (0,), (0, 1)), ("meets", (), ()),
                 ("meets", [0], (1,)), ("meets", (0,), (True,)), ("meets", (0,)), ("meets", (0,), (1,), (2,)),
                 ("meets", (0,) * 20002, (0,) * 20001 + (1,)), ("meets", (-1,), (1,)), ("clear",), ("meets",)]
        for value in VALUES + wrong + [("clear", value, ()) for value in VALUES if value != ()] + [
                ("clear", (), value) for value in VALUES if value != ()] + [(value, (), ()) for value in VALUES] + [
                ("meets", (5, 5, 5), value) for value in VALUES]:
            raised_by(self, InvalidPaper, write_paper, value)

    def test_which_line_is_none(self):
        kinds = ["kind -.a.0", "kind a.-.0", "kind a.b.1"]
        stands = ["a.b.1 a.b.1 0 0,0", "a.b.1 a.b.1 0 0,1"]
        texts = [(["clear"] + kinds + stands, None), (["clear"] + kinds[::-1], 2), (["clear"] + stands[::-1], 2),
                 (["clear"] + kinds[:1] * 2, 2), (["clear"] + stands[:1] * 2, 2), (["clear"] + stands + kinds, 3),
                 (["clear"] + kinds + [stands[0], kinds[2], "x"], 5), (["clear", "kind", *kinds], 1), (["clear "], 0),
                 (["clear", ""], 1), (["", "clear"], 0), (["clear", *kinds, "", *stands], 4), (["Clear"], 0),
                 (["clear", *kinds, "kind a.b.01"], 4), (["clear", "kind  a.b.1"], 1), (["clear", "kind a.b.1 "], 1),
                 (["clear", *stands, "a.b.1 a.b.1 0 0,+2"], 3), (["clear", *stands, "a.b.1 a.b.1 0 -0,0"], 3),
                 (["clear", "clear"], 1), (["clear", "meets 0 1"], 1), (["meets 0 1", "clear"], 1), (["meets 0 1", ""], 1),
                 (["meets 0/1 0/1"], 0), (["meets 0/2 0/1"], 0), (["meets 0 0/1"], 0), (["meets 0/1"], 0),
                 (["meets"], 0), (["meets 0 1 2"], 0), (["meets  0 1"], 0), (["meets 0 1 "], 0), (["meets 00 1"], 0),
                 (["meets 0 -1"], 0), (["meets 0 +1"], 0), (["meets 0 01"], 0), (["meet 0 1"], 0), (["Meets 0 1"], 0),
                 (["meets 1 0", "x"], 0), ([" meets 0 1"], 0), ([""], 0), (["clear", "kind -.-.0"], 1),
                 (["meets " + "0/" * 20001 + "0 " + "0/" * 20001 + "1"], 0)]
        for lines, number in texts:
            text = "\n".join(lines)
            if number is None:
                self.assertEqual(write_paper(read_paper(text)), text)
            else:
                self.assertEqual(raised_by(self, ParseError, read_paper, text).number, number, lines)

    def test_errors(self):
        for value in [value for value in VALUES if not isinstance(value, str)] + [["clear"], ("clear",)]:
            self.assertIsNone(raised_by(self, ParseError, read_paper, value).number)
        for value in [value for value in VALUES if isinstance(value, str)]:
            self.assertEqual(raised_by(self, ParseError, read_paper, value).number, 0)
        for scheme in (DRAGON, FLAKE, LEVY, BACK, UNEVEN):
            self.assertEqual(read_scheme(write_scheme(scheme)), Scheme.from_lines(*scheme.lines))


if __name__ == "__main__":
    unittest.main()
