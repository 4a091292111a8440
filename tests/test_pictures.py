import random
import unittest

from grownlines.errors import InvalidNumber, InvalidOperation, InvalidScheme, ParseError, TooMany
from grownlines.lines.schemes import Scheme
from grownlines.text.pictures import picture, read_picture

from tests.helpers import (BACK, DRAGON, FLAKE, GOSPER, LEVY, LONG, LOOP, MIXED, ROAD, THERE_AND_BACK, UNEVEN, VALUES,
                           line_of, orders_within, others, points_of, raised_by, same, within)
from tests.test_tables import is_scheme

SQUARES = tuple(scheme for scheme in MIXED if scheme.grid.name == "square")


def sets_of(scheme, line):
    """The points and the edges of a line, moved so that the least parts are 0."""
    points = points_of(scheme, line)
    left, low = min(x for x, _ in points), min(y for _, y in points)
    moved = [(x - left, y - low) for x, y in points]
    edges = {tuple(sorted(pair)) for pair in zip(moved, moved[1:])}
    return (tuple(sorted(set(moved))), tuple(sorted(edges)))


def drawn(points, edges):
    """The picture of points and edges, sign by sign on a sheet that is large enough."""
    width = 2 * max(x for x, _ in points) + 1
    height = 2 * max(y for _, y in points) + 1
    sheet = [[" "] * width for _ in range(height)]
    for x, y in points:
        sheet[height - 1 - 2 * y][2 * x] = "+"
    for (x, y), (right, up) in edges:
        sheet[height - 1 - y - up][x + right] = "-" if y == up else "|"
    return "\n".join("".join(row).rstrip(" ") for row in sheet)


def read_by_words(text):
    """The points and the edges of a text, sign by sign, None if it is not what is drawn of them."""
    rows = text.split("\n")
    signs = [(at, len(rows) - 1 - down, sign) for down, row in enumerate(rows) for at, sign in enumerate(row)
             if sign != " "]
    points = {(at // 2, up // 2) for at, up, sign in signs if sign == "+" and at % 2 == up % 2 == 0}
    beside = {((at // 2, up // 2), (at // 2 + 1, up // 2)) for at, up, sign in signs
              if sign == "-" and at % 2 == 1 and up % 2 == 0}
    upward = {((at // 2, up // 2), (at // 2, up // 2 + 1)) for at, up, sign in signs
              if sign == "|" and at % 2 == 0 and up % 2 == 1}
    edges = beside | upward
    if len(points) + len(edges) < len(signs) or not {point for edge in edges for point in edge} <= points:
        return None
    if not points or [min(part) for part in zip(*points)] != [0, 0] or drawn(points, edges) != text:
        return None
    return (tuple(sorted(points)), tuple(sorted(edges)))


def drawn_sets(draw):
    """Points, some of them with edges between, of which the least parts are 0."""
    width, height = draw.randrange(1, 6), draw.randrange(1, 6)
    points = {(draw.randrange(width), draw.randrange(height)) for _ in range(draw.randrange(1, 14))}
    left, low = min(x for x, _ in points), min(y for _, y in points)
    points = {(x - left, y - low) for x, y in points}
    edges = {((x, y), other) for x, y in points for other in ((x + 1, y), (x, y + 1))
             if other in points and draw.random() < 0.7}
    return (tuple(sorted(points)), tuple(sorted(edges)))


class Pictures(unittest.TestCase):
    def test_lines(self):
        seen = 0
        for scheme, order, line in orders_within(SQUARES + (LONG.with_line("axiom a0"),), 400):
            if scheme.grid.name == "square":
                points, edges = sets_of(scheme, line)
                text = picture(scheme, order)
                self.assertEqual(text, drawn(points, edges))
                self.assertTrue(same(read_picture(text), (points, edges)))
                seen += 1
        self.assertGreater(seen, 40)

    def test_all_quarters(self):
        for turn in range(4):
            for scheme in (DRAGON, BACK, LEVY):
                turned = scheme.with_line(f"axiom a{turn} a{(turn + 1) % 4}")
                for order in range(4):
                    self.assertEqual(picture(turned, order), drawn(*sets_of(turned, line_of(turned, order))))

    def test_known(self):
        self.assertEqual(picture(DRAGON, 0), "+-+")
        self.assertEqual(picture(DRAGON, 2), "+\n|\n+-+\n  |\n+-+")
        self.assertEqual(picture(DRAGON.with_line("axiom a3"), 0), "+\n|\n+")
        self.assertEqual(picture(LOOP, 0), "  +-+\n  | |\n+-+-+\n  |\n  +")
        self.assertEqual(picture(THERE_AND_BACK, 0), "+-+")

    def test_400_steps(self):
        full = Scheme.from_lines("grid square", "axiom a0 a0 a0 a0", "rule a a0 a0 a0 a0 a0 a0 a0 a0 a0 a0")
        self.assertEqual(len(line_of(full, 2)), 400)
        self.assertEqual(picture(full, 2), "-".join("+" * 401))
        # One step more: rules of 7, 9 and 11 items.
        over = Scheme.from_lines(
            "grid square", "axiom c0 c0 c0 c0 d0", "rule a a0 a0 a0 a0 a0 a0 a0", "rule b a0 a0 a2 a0 a0 a0 a0 a0 a0",
            "rule c b0 b0 a2 a0 a0 a2 a0 a0 a0 a0 a0", "rule d a0 a0 a2 a0 a0 a2 a0 a0 a0 a0 a0")
        self.assertEqual(len(line_of(over, 2)), 401)
        self.assertEqual(raised_by(self, TooMany, picture, over, 2).limit, 400)
        self.assertEqual(picture(over, 1), "-".join("+" * 36))

    def test_errors(self):
        for value in others(is_scheme):
            raised_by(self, InvalidScheme, picture, value, None)
        for value in others(within(0, 200)) + [-1, 201]:
            for scheme in (FLAKE, DRAGON):
                self.assertIs(raised_by(self, InvalidNumber, picture, scheme, value).value, value)
        for order in (0, 3, 200):
            raised_by(self, InvalidOperation, picture, FLAKE, order)
            raised_by(self, InvalidOperation, picture, GOSPER, order)
        for order in (9, 10, 200):
            self.assertEqual(raised_by(self, TooMany, picture, DRAGON, order).limit, 400)
        self.assertEqual(raised_by(self, TooMany, picture, ROAD, 200).limit, 400)
        self.assertEqual(picture(UNEVEN, 1), drawn(*sets_of(UNEVEN, line_of(UNEVEN, 1))))


class Read(unittest.TestCase):
    def test_drawn_signs(self):
        draw = random.Random(2)
        for _ in range(600):
            points, edges = drawn_sets(draw)
            self.assertTrue(same(read_picture(drawn(points, edges)), (points, edges)))

    def test_changed_signs(self):
        draw = random.Random(3)
        seen = [0, 0]
        for _ in range(2500):
            text = drawn(*drawn_sets(draw))
            at = draw.randrange(len(text) + 1)
            sign = draw.choice("+-| \nx")
            changed = draw.choice([text[:at] + sign + text[at + 1:], text[:at] + sign + text[at:], text[:at] + text[at + 1:]])
            try:
                found = read_picture(changed)
            except ParseError as error:
                self.assertIsNone(error.number)
                seen[0] += 1
                continue
            # What is read is drawn as it stands.
            self.assertEqual(drawn(*found), changed)
            self.assertEqual([min(part) for part in zip(*found[0])], [0, 0])
            seen[1] += 1
        self.assertGreater(min(seen), 200)

    def test_known(self):
        self.assertEqual(read_picture("+"), (((0, 0),), ()))
        self.assertEqual(read_picture("+-+"), (((0, 0), (1, 0)), (((0, 0), (1, 0)),)))
        self.assertEqual(read_picture("+ +"), (((0, 0), (1, 0)), ()))
        self.assertEqual(read_picture("  +\n\n+"), (((0, 0), (1, 1)), ()))
        self.assertEqual(read_picture("+\n\n\n\n+"), (((0, 0), (0, 2)), ()))
        self.assertEqual(read_picture("+-+\n|\n+"),
                         (((0, 0), (0, 1), (1, 1)), (((0, 0), (0, 1)), ((0, 1), (1, 1)))))

    def test_what_is_no_picture(self):
        wrong = ["", " ", "\n", "-", "|", "+-", "-+", "+ ", " +", "++", "+-+-", "+--+", "+-+ ", "+\n", "\n+", "+\n+",
                 "+\n|", "|\n+", "+\n|\n", "+\n |\n+", "+\n-\n+", "+\n \n+", "+\n\n", "\n\n+", "+\n\n+\n\n", "+|+", "+x+",
                 "  +\n  |\n  +", "  +", "+\n|\n+\n|", "+-+\n\n-", " -\n\n+", "+\n  |\n+", "+-+\n|  ", "+\t+", "* *",
                 "+\n\n\n+", "+-+\n  |\n ++", "+-\n\n+", "+\n|\n  +", "\n\n+-+", "-\n\n+-+"]
        for value in VALUES + wrong + [None, ["+"], ("+",), b"+", 43]:
            self.assertIsNone(raised_by(self, ParseError, read_picture, value).number)


if __name__ == "__main__":
    unittest.main()
