"""Schemes: a grid, an axiom, and a rule for each letter."""

from grownlines.base.grids import GRIDS, Grid
from grownlines.base.points import norm_in, trail
from grownlines.base.rules import MIN_ITEMS, Rule, is_row, row_in, row_text
from grownlines.base.words import is_letter
from grownlines.errors import InvalidGrid, InvalidScheme, ParseError, UnknownLetter

MAX_LETTERS = 6
MAX_AXIOM = 12

LEAST_NORM = 2


def read_line(text):
    """The pair of what a line is for and what it tells, None if the text is no line.

    A line is for "grid", for "axiom", or for the letter of a rule.
    """
    if not isinstance(text, str):
        return None
    word, _, rest = text.partition(" ")
    if word == "grid":
        return (word, rest) if rest in GRIDS else None
    if word == "axiom":
        return _with_row(word, rest, 1)
    letter, _, items = rest.partition(" ")
    if word == "rule" and is_letter(letter):
        return _with_row(letter, items, MIN_ITEMS)
    return None


def _with_row(key, text, least):
    row = row_in(text)
    if row is None or len(row) < least:
        return None
    return (key, row)


def _has_rows(grid, axiom, rules):
    if not is_row(grid, axiom, least=1) or len(axiom) > MAX_AXIOM:
        return False
    if not isinstance(rules, dict) or not 1 <= len(rules) <= MAX_LETTERS:
        return False
    return all([is_letter(letter) and is_row(grid, rules[letter], least=MIN_ITEMS) for letter in rules])


def _is_complete(axiom, rules):
    rows = [axiom] + [rules[letter] for letter in rules]
    return all([letter in rules for row in rows for letter, turn in row])


def _rules_of(grid, axiom, rules):
    """The rules by their letters, ascending, None if they make no scheme with this axiom."""
    if not _has_rows(grid, axiom, rules) or not _is_complete(axiom, rules):
        return None
    own = {letter: Rule(grid, rules[letter]) for letter in sorted(rules)}
    growths = sorted({own[letter].end for letter in own})
    if len(growths) > 1 or norm_in(grid, growths[0]) < LEAST_NORM:
        return None
    return own


def _letters_met(axiom, rules):
    """The ascending tuple of the letters that come from the axiom, by any number of orders."""
    met = sorted({letter for letter, turn in axiom})
    for _ in range(len(rules)):
        met = sorted(set(met + [other for letter in met for other in rules[letter].letters]))
    return tuple(met)


class Scheme:
    """A grid, an axiom, and a rule for each letter, all of one growth."""

    def __init__(self, grid, axiom, rules):
        if not isinstance(grid, Grid):
            raise InvalidGrid("a scheme has a grid")
        own = _rules_of(grid, axiom, rules)
        if own is None:
            raise InvalidScheme("there is no scheme of these rows")
        heads = (f"grid {grid}", f"axiom {row_text(axiom)}")
        self._rules = own
        self.grid = grid
        self.axiom = axiom
        self.letters = tuple(own)
        self.growth = own[self.letters[0]].end
        self.lines = heads + tuple([f"rule {letter} {own[letter]}" for letter in own])
        self.is_closed = trail(grid, [turn for letter, turn in axiom])[-1] == (0, 0)
        self.is_even = len({len(own[letter].row) for letter in own}) == 1
        self.used = _letters_met(axiom, own)

    @classmethod
    def from_lines(cls, *lines):
        """The scheme with these lines, in any order."""
        parts = {}
        for index, line in enumerate(lines):
            part = read_line(line)
            if part is None or part[0] in parts:
                raise ParseError(index)
            parts[part[0]] = part[1]
        if "grid" not in parts or "axiom" not in parts:
            raise InvalidScheme("a line is missing")
        rules = {key: parts[key] for key in parts if is_letter(key)}
        return cls(Grid(parts["grid"]), parts["axiom"], rules)

    def with_line(self, line):
        """The scheme with this line, instead of the one for the same."""
        part = read_line(line)
        if part is None:
            raise ParseError(None)
        kept = self._lines_without(part[0])
        return Scheme.from_lines(*kept, line)

    def without(self, letter):
        """The scheme without a letter."""
        if letter not in self.letters:
            raise UnknownLetter(letter)
        kept = self._lines_without(letter)
        return Scheme.from_lines(*kept)

    def _lines_without(self, key):
        return [line for line in self.lines if read_line(line)[0] != key]

    def __getitem__(self, letter):
        if letter not in self.letters:
            raise UnknownLetter(letter)
        return self._rules[letter]

    def __contains__(self, value):
        return value in self.letters or value in self.lines

    def __iter__(self):
        return iter(self.letters)

    def __len__(self):
        return len(self.letters)

    def __eq__(self, other):
        return isinstance(other, Scheme) and self.lines == other.lines

    def __str__(self):
        return f"scheme of {len(self.letters)} letters on the {self.grid} grid"
