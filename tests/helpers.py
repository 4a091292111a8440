"""Values of every kind, known schemes, and lines that are grown by the words of the document alone."""

import copy

from grownlines.base.grids import Grid, Vector
from grownlines.base.rules import Rule
from grownlines.lines.schemes import Scheme

SQUARE = Grid("square")
TRIANGLE = Grid("triangle")
BOTH = (SQUARE, TRIANGLE)

DRAGON = Scheme.from_lines("grid square", "axiom a0", "rule a a0 b1", "rule b a1 b0")
FLAKE = Scheme.from_lines("grid triangle", "axiom a0 a4 a2", "rule a a0 a1 a5 a0")

# Rules of different lengths, a letter that is never used, and an axiom of several items.
UNEVEN = Scheme.from_lines(
    "grid square", "axiom b1 a0 c3", "rule a a0 c0", "rule b a1 b0 a3 c0", "rule c c0 b2 a0 a0", "rule z z0 z0")
# A closed line of two steps, and one that goes back on itself.
THERE_AND_BACK = Scheme.from_lines("grid square", "axiom a0 b2", "rule a a0 a0 b2 a0", "rule b b0 a0")
GOSPER = Scheme.from_lines(
    "grid triangle", "axiom a0", "rule a a0 b1 b3 a2 a0 a0 b5", "rule b a5 b0 b0 b2 a3 a1 b0")
LONG = Scheme.from_lines(
    "grid triangle", "axiom a0 b1 c2 d3 e4 f5 a0 a0 a0 a0 a0 a0",
    *[f"rule {letter} a0 b1 c2 d3 e4 f5 a0 a0 a0 a0 a0 a0" for letter in "abcdef"])
SCHEMES = (DRAGON, FLAKE, UNEVEN, THERE_AND_BACK, GOSPER, LONG)

UNITS = {
    "square": [(1, 0), (0, 1), (-1, 0), (0, -1)],
    "triangle": [(1, 0), (0, 1), (-1, 1), (-1, 0), (0, -1), (1, -1)],
}


def nested(depth):
    """A tuple in a list in a tuple .., so many deep."""
    value = 1
    for level in range(depth):
        value = [value] if level % 2 else (value,)
    return value


INTEGERS = [0, 1, -1, 2, 7, 10 ** 399, -10 ** 399, 10 ** 400 - 1, 1 - 10 ** 400]
GREAT = [10 ** 400, -10 ** 400, 10 ** 400 + 1, 10 ** 499, -10 ** 499]
OBJECTS = [SQUARE, TRIANGLE, Vector(SQUARE, (1, 0)), Vector(TRIANGLE, (0, 0)),
           Rule(SQUARE, (("a", 0), ("b", 1))), DRAGON, FLAKE]
TEXTS = ["", "a", "z", "ab", "A", "1", " ", "\n", "a ", "~", "{", "`", "square", "a0", "a0 b1", "x" * 4000]
NESTS = [(), (1,), (1, 2), (1, 2, 3), (True, 0), (0, False), (None, None), ("a", 0), ("a", True), ("ab", 0),
         ((1, 2), 3), [], [1, 2], ["a", 0], [("a", 0)], {}, {1: 2}, {"a": 0}, {0: (1, 2), 1: (0, 0)},
         nested(7), nested(8), (SQUARE, SQUARE), ([], {}), (10 ** 400, 0), (0, -10 ** 400)]
VALUES = [None, True, False] + INTEGERS + GREAT + OBJECTS + TEXTS + NESTS


def others(*accepted):
    """Values of every kind that are told by none of the tests for what is accepted."""
    return [value for value in VALUES if not any(test(value) for test in accepted)]


def integer(value):
    return type(value) is int and abs(value) < 10 ** 400


def point(value):
    return type(value) is tuple and len(value) == 2 and all(integer(part) for part in value)


def within(low, high):
    return lambda value: integer(value) and low <= value <= high


def same(value, kept):
    """Whether a value is what was kept, with the same kinds of parts."""
    return value == kept and repr(value) == repr(kept)


def raised_by(case, error, call, *values, **named):
    """The error of this very class that a call raises; its arguments stay as they are."""
    before = [copy.deepcopy(value) for value in values]
    with case.assertRaises(error) as caught:
        call(*values, **named)
    case.assertIs(type(caught.exception), error)
    case.assertEqual(list(values), before)
    return caught.exception


def add(one, other):
    return (one[0] + other[0], one[1] + other[1])


def product(name, one, other):
    (a, b), (c, d) = one, other
    return (a * c - b * d, a * d + b * c + (b * d if name == "triangle" else 0))


def grow(scheme, steps):
    """The next line, from the texts of the lines of the scheme alone."""
    rules = {}
    for line in scheme.lines[2:]:
        words = line.split(" ")
        rules[words[1]] = [(word[0], int(word[1:])) for word in words[2:]]
    many = len(UNITS[scheme.lines[0][5:]])
    return [(own, (direction + turn) % many) for letter, direction in steps for own, turn in rules[letter]]


def axiom_of(scheme):
    return [(word[0], int(word[1:])) for word in scheme.lines[1].split(" ")[1:]]


def line_of(scheme, order):
    """The steps of a line, grown one order after the other."""
    steps = axiom_of(scheme)
    for _ in range(order):
        steps = grow(scheme, steps)
    return steps


def points_of(scheme, steps):
    """The points to which steps lead, the first and the last one included."""
    units = UNITS[scheme.lines[0][5:]]
    points = [(0, 0)]
    for _, direction in steps:
        points.append(add(points[-1], units[direction]))
    return points


def visits_of(scheme, steps):
    """The points of all visits."""
    points = points_of(scheme, steps)
    return points[:-1] if points[-1] == (0, 0) else points


def short_lines(most):
    """Pairs of schemes and orders whose lines have at most so many steps."""
    for scheme in SCHEMES:
        order = 0
        while len(line_of(scheme, order)) <= most:
            yield scheme, order
            order += 1
