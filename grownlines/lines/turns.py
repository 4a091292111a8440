"""Steps counted by letters and directions, many orders at once.

What is counted of a letter is a list by directions, a row has such a list for
each letter, or for each group of letters, and a matrix is a list of rows. A
row tells what comes from something by some order, so that rows are joined with
matrices as numbers are: where two lists meet, one is turned by the other.
"""

from grownlines.lines.tallies import joined, powered


def _most(matrix):
    """How many steps a row has at most."""
    return max([sum([sum(counts) for counts in row]) for row in matrix])


def _packed(matrix, shifts):
    return [[sum([many << shift for many, shift in zip(counts, shifts)]) for counts in row] for row in matrix]


def _turned_joined(one, other):
    """The product of two matrices."""
    # Lists are multiplied as integers in which the counts stand side by side, with enough space for all sums.
    # What is turned beyond the last direction comes in again at the first one.
    width = (_most(one) * _most(other)).bit_length()
    shifts = [direction * width for direction in range(len(one[0][0]))]
    rows = joined(_packed(one, shifts), _packed(other, shifts))
    around = len(shifts) * width
    space = (1 << width) - 1
    folded = [[product + (product >> around) for product in row] for row in rows]
    return [[[(sums >> shift) & space for shift in shifts] for sums in row] for row in folded]


def _joined_often(row, matrix, many):
    """The row, joined so many times with the matrix."""
    last = row
    if many > 1:
        # The row is joined twice with half the power: the whole power is not needed, and takes most of the time.
        half = powered(matrix, many // 2, _turned_joined)
        last = _turned_joined(_turned_joined(row, half), half)
    return _turned_joined(last, matrix) if many % 2 == 1 else last


def _added(lists):
    return [sum(column) for column in zip(*lists)]


def _gathered(row, groups):
    """The row of the groups of letters, from that of all letters."""
    return [_added([row[at] for at in group]) for group in groups]


def directions_after(scheme, order):
    """The dict from letters to the lists, by directions, of how many steps of the line have both."""
    directions = range(len(scheme.grid.units))
    first = [[scheme.axiom.count((letter, direction)) for direction in directions] for letter in scheme.letters]
    # As much comes from all letters of which the rules have the same items, in any order.
    rules = [tuple(sorted(scheme[letter].row)) for letter in scheme.letters]
    groups = {}
    for at, rule in enumerate(rules):
        groups.setdefault(rule, []).append(at)
    own = [[[items.count((letter, turn)) for turn in directions] for letter in scheme.letters] for items in groups]
    members = [groups[items] for items in groups]
    counts = first
    if order > 0:
        matrix = [_gathered(row, members) for row in own]
        last = _joined_often([_gathered(first, members)], matrix, order - 1)
        counts = _turned_joined(last, own)[0]
    return {letter: many for letter, many in zip(scheme.letters, counts)}
