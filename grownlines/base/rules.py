"""Items, rows of items and their texts, and the rules by which steps are replaced."""

from grownlines.base.grids import Grid
from grownlines.base.points import trail
from grownlines.base.words import is_count, is_integer, is_letter
from grownlines.errors import InvalidGrid, InvalidNumber, InvalidOperation, InvalidRule, ParseError

MIN_ITEMS = 2
MAX_ITEMS = 12

# The turns of the grid with the most directions: texts have no grid of their own.
_TURNS = "012345"


def _check_grid(grid):
    if not isinstance(grid, Grid):
        raise InvalidGrid("a rule has a grid")


def is_turn(grid, value):
    """Whether the value is a turn or a direction of the grid, a number from 0 on."""
    return is_count(value) and value < len(grid.units)


def is_item(grid, value):
    """Whether the value is an item of the grid."""
    _check_grid(grid)
    if not isinstance(value, tuple) or len(value) != 2:
        return False
    return is_letter(value[0]) and is_turn(grid, value[1])


def is_row(grid, value, *, least):
    """Whether the value is a tuple of at least so many items of the grid, and at most 12."""
    _check_grid(grid)
    if not is_count(least):
        raise InvalidNumber(least)
    if not isinstance(value, tuple) or len(value) < least or len(value) > MAX_ITEMS:
        return False
    return all([is_item(grid, item) for item in value])


def is_renaming(letters, value):
    """Whether the value is a dict from just these letters to any letters."""
    if not isinstance(value, dict) or len(value) != len(letters):
        return False
    return all([letter in value and is_letter(value[letter]) for letter in letters])


def row_text(items):
    """The text of a row of items."""
    return " ".join([f"{letter}{turn}" for letter, turn in items])


def row_in(text):
    """The row of 1 to 12 items with this text, None if there is none."""
    words = text.split(" ")
    if len(words) > MAX_ITEMS or not all([_is_item_text(word) for word in words]):
        return None
    return tuple([(word[0], _TURNS.index(word[1])) for word in words])


def _is_item_text(word):
    return len(word) == 2 and is_letter(word[0]) and word[1] in _TURNS


def write_row(items):
    """The text of 1 to 12 items of the triangle grid."""
    if not is_row(Grid("triangle"), items, least=1):
        raise InvalidRule("a row has 1 to 12 items")
    return row_text(items)


def read_row(text):
    """The 1 to 12 items with this text."""
    row = row_in(text) if isinstance(text, str) else None
    if row is None:
        raise ParseError(None)
    return row


class Rule:
    """A row of 2 to 12 items of a grid."""

    def __init__(self, grid, items):
        _check_grid(grid)
        if not is_row(grid, items, least=MIN_ITEMS):
            raise InvalidRule("a rule has 2 to 12 items of its grid")
        points = trail(grid, [turn for letter, turn in items])
        self.grid = grid
        self.row = items
        self.letters = tuple(sorted({letter for letter, turn in items}))
        self.starts = tuple(points[:-1])
        self.end = points[-1]

    @classmethod
    def from_text(cls, grid, text):
        """The rule of a grid with this text."""
        _check_grid(grid)
        row = row_in(text) if isinstance(text, str) else None
        if not is_row(grid, row, least=MIN_ITEMS):
            raise ParseError(None)
        return cls(grid, row)

    def drawn(self, direction):
        """The steps of the rule, if it is drawn in this direction."""
        if not is_turn(self.grid, direction):
            raise InvalidNumber(direction)
        many = len(self.grid.units)
        return tuple([(letter, (turn + direction) % many) for letter, turn in self.row])

    def backward(self):
        """The rule with the items in the opposite order."""
        return Rule(self.grid, self.row[::-1])

    def mirrored(self):
        """The rule with the opposite turns."""
        many = len(self.grid.units)
        return Rule(self.grid, tuple([(letter, -turn % many) for letter, turn in self.row]))

    def renamed(self, letters):
        """The rule with other letters, by a dict from just its letters."""
        if not is_renaming(self.letters, letters):
            raise InvalidOperation("a renaming is a dict from just the letters of the rule to letters")
        return Rule(self.grid, tuple([(letters[letter], turn) for letter, turn in self.row]))

    def __add__(self, other):
        if not isinstance(other, Rule) or self.grid != other.grid:
            raise InvalidRule("rules of one grid are joined")
        return Rule(self.grid, self.row + other.row)

    def __getitem__(self, index):
        if not is_integer(index) or index < 0 or index >= len(self.row):
            raise InvalidNumber(index)
        return self.row[index]

    def __contains__(self, value):
        if is_item(self.grid, value):
            return value in self.row
        return value in self.letters

    def __iter__(self):
        return iter(self.row)

    def __len__(self):
        return len(self.row)

    def __eq__(self, other):
        return isinstance(other, Rule) and self.grid == other.grid and self.row == other.row

    def __str__(self):
        return str(row_text(self.row))
