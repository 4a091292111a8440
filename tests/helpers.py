"""Values of every kind, known schemes, and lines that are grown by the words of the document alone."""

import copy
import random

from grownlines.base.grids import Grid, Vector
from grownlines.base.rules import Rule
from grownlines.errors import InvalidScheme
from grownlines.lines.schemes import Scheme

SQUARE = Grid("square")
TRIANGLE = Grid("triangle")
BOTH = (SQUARE, TRIANGLE)

DRAGON = Scheme.from_lines("grid square", "axiom a0", "rule a a0 b1", "rule b a1 b0")
FLAKE = Scheme.from_lines("grid triangle", "axiom a0 a4 a2", "rule a a0 a1 a5 a0")

# Rules of different lengths, a letter that is never used, and an axiom of several items.
UNEVEN = Scheme.from_lines(
    "grid square", "axiom b1 a0 c3", "rule a a0 c0", "rule b a1 b0 a3 c0", "rule c c0 b2 a0 a0", "rule z z0 z0")
# A closed line of two steps, and one that goes back on itself.
THERE_AND_BACK = Scheme.from_lines("grid square", "axiom a0 b2", "rule a a0 a0 b2 a0", "rule b b0 a0")
GOSPER = Scheme.from_lines(
    "grid triangle", "axiom a0", "rule a a0 b1 b3 a2 a0 a0 b5", "rule b a5 b0 b0 b2 a3 a1 b0")
LONG = Scheme.from_lines(
    "grid triangle", "axiom a0 b1 c2 d3 e4 f5 a0 a0 a0 a0 a0 a0",
    *[f"rule {letter} a0 b1 c2 d3 e4 f5 a0 a0 a0 a0 a0 a0" for letter in "abcdef"])
SCHEMES = (DRAGON, FLAKE, UNEVEN, THERE_AND_BACK, GOSPER, LONG)

BACK = Scheme.from_lines("grid square", "axiom a0", "rule a a0 a0 a2 a0")
ROAD = Scheme.from_lines("grid square", "axiom a0", "rule a a0 a0")
LEVY = Scheme.from_lines("grid square", "axiom a0", "rule a a0 a1")
LOOP = Scheme.from_lines("grid square", "axiom a0 a0 a1 a2 a3 a3", "rule a a0 a0")
# A closed line of two steps, whose edges are one.
TWO = Scheme.from_lines("grid triangle", "axiom a1 a4", "rule a a0 a1 a5 a0")
# Ends that alternate in the triangle grid.
STAR = Scheme.from_lines("grid triangle", "axiom a0 a0 a2 a4 a4 a2 a0", "rule a a0 a1")

# Open lines of 4999 and of 5000 steps, and a closed one of 5001, at order 4; the open ones have no edge twice before.
NEARLY = Scheme.from_lines(
    "grid triangle", "axiom c0 a0 b0 b0 b0", "rule a a0 a0 a1 b5 b0", "rule b b0 a1 b5 b1 b5 b0", "rule c a0 d0 b0 a0",
    "rule d b0 e0 a0 b1 b5", "rule e a0 b0 b0 f0", "rule f a0 a0 a3 a0 a0 a0")
FULL = Scheme.from_lines(
    "grid triangle", "axiom a0 a0 a0 b0 b0 b0 b0 b0 c0 a0 a0", "rule a a0 b0 b0 b0", "rule b a0 b1 b5 a0 b0",
    "rule c a0 d0 a1 b5 a0", "rule d b0 a0 a0 e1 a5", "rule e a0 b0 f0 a0", "rule f a0 a0 a3 a0 a0 a0")
OVER = Scheme.from_lines(
    "grid triangle", "axiom a0 a0 b2 a2 c4 c4", "rule a c1 a5 a1 a5 c0 b0", "rule b c0 a0 c0 c1 b5",
    "rule c c0 a1 b5 c0 c0")

# Six letters with twelve items each, and three with four.
SIX = Scheme.from_lines(
    "grid triangle", "axiom a0 b1 c2 d3 e4 f5",
    "rule a a0 b1 c5 d0 e2 f4 a0 b3 c0 d1 e5 f0", "rule b b1 c5 d0 e2 f4 a0 b3 c0 d1 e5 f0 a0",
    "rule c c5 d0 e2 f4 a0 b3 c0 d1 e5 f0 a0 b1", "rule d d0 e2 f4 a0 b3 c0 d1 e5 f0 a0 b1 c5",
    "rule e e2 f4 a0 b3 c0 d1 e5 f0 a0 b1 c5 d0", "rule f f4 a0 b3 c0 d1 e5 f0 a0 b1 c5 d0 e2")
THREE = Scheme.from_lines(
    "grid square", "axiom a0 c1", "rule a a0 b1 c0 a3", "rule b b1 c3 a0 c0", "rule c a0 a0 b1 c3")
# As SIX, but with rules of different lengths and different items.
RAGGED = Scheme.from_lines(
    "grid triangle", "axiom f1 a0 b1 c2 d3 e4 f5",
    "rule a f1 e5 b1 e0 a0 f0 e0 b5 d4 c0 b2 c3", "rule b a3 f0 e5 b0 a5 d4 d2 a1 f0 d1 b0 e0",
    "rule c d2 e0 d1 f5 e4 d1 d0 e0 d5 e0", "rule d b3 c1 c0 c4 e0 e0 e5 b2 a0 d1 d5 a0",
    "rule e e0 a3 e1 b5 b0 a0 f5 c1 a0", "rule f d1 d0 f0 d1 b5 b0 d5 e0 c4 b3 b2 f0")

UNITS = {
    "square": [(1, 0), (0, 1), (-1, 0), (0, -1)],
    "triangle": [(1, 0), (0, 1), (-1, 1), (-1, 0), (0, -1), (1, -1)],
}


def nested(depth):
    """A tuple in a list in a tuple .., so many deep."""
    value = 1
    for level in range(depth):
        value = [value] if level % 2 else (value,)
    return value


INTEGERS = [0, 1, -1, 2, 7, 10 ** 399, -10 ** 399, 10 ** 400 - 1, 1 - 10 ** 400]
GREAT = [10 ** 400, -10 ** 400, 10 ** 400 + 1, 10 ** 499, -10 ** 499]
OBJECTS = [SQUARE, TRIANGLE, Vector(SQUARE, (1, 0)), Vector(TRIANGLE, (0, 0)),
           Rule(SQUARE, (("a", 0), ("b", 1))), DRAGON, FLAKE]
TEXTS = ["", "a", "z", "ab", "A", "1", " ", "\n", "a ", "~", "{", "`", "square", "a0", "a0 b1", "x" * 4000]
NESTS = [(), (1,), (1, 2), (1, 2, 3), (True, 0), (0, False), (None, None), ("a", 0), ("a", True), ("ab", 0),
         ((1, 2), 3), [], [1, 2], ["a", 0], [("a", 0)], {}, {1: 2}, {"a": 0}, {0: (1, 2), 1: (0, 0)},
         nested(7), nested(8), (SQUARE, SQUARE), ([], {}), (10 ** 400, 0), (0, -10 ** 400)]
VALUES = [None, True, False] + INTEGERS + GREAT + OBJECTS + TEXTS + NESTS


def others(*accepted):
    """Values of every kind that are told by none of the tests for what is accepted."""
    return [value for value in VALUES if not any(test(value) for test in accepted)]


def integer(value):
    return type(value) is int and abs(value) < 10 ** 400


def point(value):
    return type(value) is tuple and len(value) == 2 and all(integer(part) for part in value)


def within(low, high):
    return lambda value: integer(value) and low <= value <= high


def same(value, kept):
    """Whether a value is what was kept, with the same kinds of parts."""
    return value == kept and repr(value) == repr(kept)


def raised_by(case, error, call, *values, **named):
    """The error of this very class that a call raises; its arguments stay as they are."""
    before = [copy.deepcopy(value) for value in values]
    with case.assertRaises(error) as caught:
        call(*values, **named)
    case.assertIs(type(caught.exception), error)
    case.assertEqual(list(values), before)
    return caught.exception


def add(one, other):
    return (one[0] + other[0], one[1] + other[1])


def product(name, one, other):
    (a, b), (c, d) = one, other
    return (a * c - b * d, a * d + b * c + (b * d if name == "triangle" else 0))


def grow(scheme, steps):
    """The next line, from the texts of the lines of the scheme alone."""
    rules = {}
    for line in scheme.lines[2:]:
        words = line.split(" ")
        rules[words[1]] = [(word[0], int(word[1:])) for word in words[2:]]
    many = len(UNITS[scheme.lines[0][5:]])
    return [(own, (direction + turn) % many) for letter, direction in steps for own, turn in rules[letter]]


def axiom_of(scheme):
    return [(word[0], int(word[1:])) for word in scheme.lines[1].split(" ")[1:]]


def line_of(scheme, order):
    """The steps of a line, grown one order after the other."""
    steps = axiom_of(scheme)
    for _ in range(order):
        steps = grow(scheme, steps)
    return steps


def points_of(scheme, steps):
    """The points to which steps lead, the first and the last one included."""
    units = UNITS[scheme.lines[0][5:]]
    points = [(0, 0)]
    for _, direction in steps:
        points.append(add(points[-1], units[direction]))
    return points


def visits_of(scheme, steps):
    """The points of all visits."""
    points = points_of(scheme, steps)
    return points[:-1] if points[-1] == (0, 0) else points


def short_lines(most):
    """Pairs of schemes and orders whose lines have at most so many steps."""
    for scheme in SCHEMES:
        order = 0
        while len(line_of(scheme, order)) <= most:
            yield scheme, order
            order += 1


def sights_of(scheme, line):
    """The visits of a line as triples (kind, direction, point), from the steps beside them."""
    many = len(UNITS[scheme.lines[0][5:]])
    points = points_of(scheme, line)
    closed = points[-1] == (0, 0)
    sights = []
    for number in range(len(line) if closed else len(line) + 1):
        before = line[number - 1] if closed or number > 0 else None
        after = line[number] if number < len(line) else None
        turn = (after[1] - before[1]) % many if before and after else 0
        kind = (before[0] if before else "", after[0] if after else "", turn)
        sights.append((kind, (after or before)[1], points[number]))
    return sights


def addresses_of_line(scheme, order):
    """The addresses of all visits, one order after the other."""
    line = axiom_of(scheme)
    addresses = [(number,) for number in range(len(visits_of(scheme, line)))]
    for _ in range(order):
        following = []
        for number, address in enumerate(addresses):
            many = len(grow(scheme, line[number:number + 1])) if number < len(line) else 1
            following.extend(address + (index,) for index in range(many))
        line, addresses = grow(scheme, line), following
    return addresses


def in_turn(name, point, turn):
    """A point, turned to the left so many times."""
    for _ in range(turn % len(UNITS[name])):
        point = product(name, point, (0, 1))
    return point


def alternating(many, ends, others):
    """Whether two pairs of ends are four different ones and take turns around a point."""
    around = [(0 if end in ends else 1) for end in range(many) if end in ends + others]
    return around in ([0, 1, 0, 1], [1, 0, 1, 0])


def faulty_pairs(scheme, line, fault):
    """All pairs of numbers with a fault, by a comparison of each with each."""
    many = len(UNITS[scheme.lines[0][5:]])
    points = points_of(scheme, line)
    sights = sights_of(scheme, line)
    if fault == "edge":
        edges = [sorted(pair) for pair in zip(points, points[1:])]
        return [(one, other) for other in range(len(edges)) for one in range(other) if edges[one] == edges[other]]
    pairs = []
    for other in range(len(sights)):
        for one in range(other):
            if points[one] == points[other] and (fault == "point" or crossing(many, sights[one], sights[other])):
                pairs.append((one, other))
    return pairs


def crossing(many, one, other):
    if "" in one[0] or "" in other[0]:
        return False
    ends = [(direction, (direction - kind[2] + many // 2) % many) for kind, direction, point in (one, other)]
    return alternating(many, *ends)


def random_schemes(seed, many):
    """Schemes of both grids, of one to three letters, with rules of different lengths."""
    draw = random.Random(seed)
    found = []
    while len(found) < many:
        name = draw.choice(["square", "triangle"])
        half = len(UNITS[name]) // 2
        turns = [draw.choice([0, 0, 0, draw.randrange(2 * half)]) for _ in range(draw.randrange(2, 5))]
        letters = draw.choice(["a", "ab", "abc"])
        lines = []
        for letter in letters:
            row = draw.sample(turns, len(turns))
            if draw.random() < 0.3:
                turn = draw.randrange(half)
                row = [turn] + row + [turn + half] if draw.random() < 0.5 else row + [turn, turn + half]
            lines.append(f"rule {letter} " + " ".join(f"{draw.choice(letters)}{turn}" for turn in row))
        axiom = draw.choice([[0], [0], [1, 0], [0, half], [0, 2, 1], [0, 1, half, half + 1]])
        lines.append("axiom " + " ".join(f"{draw.choice(letters)}{turn}" for turn in axiom))
        try:
            found.append(Scheme.from_lines(f"grid {name}", *lines))
        except InvalidScheme:
            pass
    return found


MIXED = SCHEMES + (BACK, ROAD, LEVY, LOOP, TWO, STAR) + tuple(random_schemes(5, 24))


def orders_within(schemes, most):
    """Pairs of schemes and orders, with their lines, that have at most so many steps."""
    for scheme in schemes:
        line = axiom_of(scheme)
        order = 0
        while len(line) <= most:
            yield scheme, order, line
            line = grow(scheme, line)
            order += 1


def norm(name, point):
    a, b = point
    return a * a + b * b + (a * b if name == "triangle" else 0)


def stand_between(name, one, other):
    """What one visit sees of another one, both as triples (kind, direction, point)."""
    vector = (other[2][0] - one[2][0], other[2][1] - one[2][1])
    return (one[0], other[0], (other[1] - one[1]) % len(UNITS[name]), in_turn(name, vector, -one[1]))


def near_pairs(scheme, line, far):
    """The triples (number, number, stand) of all pairs of visits whose vector has at most this norm."""
    name = scheme.lines[0][5:]
    sights = sights_of(scheme, line)
    triples = []
    for number, one in enumerate(sights):
        for later in range(number + 1, len(sights)):
            other = sights[later]
            if norm(name, (other[2][0] - one[2][0], other[2][1] - one[2][1])) <= far:
                triples.append((number, later, stand_between(name, one, other)))
    return triples


def fault_shown(scheme, stand, fault):
    """Whether a stand shows a fault, by the two visits drawn beside one another."""
    name = scheme.lines[0][5:]
    many = len(UNITS[name])
    kind, other, turn, vector = stand
    if fault == "point":
        return vector == (0, 0)
    if fault == "cross":
        return vector == (0, 0) and crossing(many, (kind, 0, (0, 0)), (other, turn, vector))
    if kind[1] == "" or other[1] == "":
        return False
    return {(0, 0), UNITS[name][0]} == {vector, add(vector, UNITS[name][turn])}
