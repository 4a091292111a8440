"""Schemes made from others: turned, mirrored, run backward, begun elsewhere, renamed, powered, with fewer letters."""

from grownlines.base.rules import MAX_ITEMS, is_renaming, is_turn
from grownlines.base.words import is_count, is_integer
from grownlines.errors import InvalidNumber, InvalidOperation, TooMany
from grownlines.lines.grown import check_scheme, sequel
from grownlines.lines.schemes import Scheme
from grownlines.lines.tallies import many_after


def _rows(scheme, letters):
    """The dict from these letters to the rows of their rules."""
    return {letter: scheme[letter].row for letter in letters}


def _turned_row(scheme, row, turn):
    many = len(scheme.grid.units)
    return tuple([(letter, (own + turn) % many) for letter, own in row])


def turned_scheme(scheme, turn):
    """The scheme whose lines are those of this one, turned."""
    check_scheme(scheme)
    if not is_turn(scheme.grid, turn):
        raise InvalidNumber(turn)
    return Scheme(scheme.grid, _turned_row(scheme, scheme.axiom, turn), _rows(scheme, scheme.letters))


def mirrored_scheme(scheme):
    """The scheme whose lines are those of this one, with all turns opposite."""
    check_scheme(scheme)
    many = len(scheme.grid.units)
    axiom = tuple([(letter, -turn % many) for letter, turn in scheme.axiom])
    return Scheme(scheme.grid, axiom, {letter: scheme[letter].mirrored().row for letter in scheme.letters})


def reversed_scheme(scheme):
    """The scheme whose lines are those of this one, run from their end to their beginning."""
    check_scheme(scheme)
    # A step that is run backward has the opposite direction, and so have those that come from it.
    axiom = _turned_row(scheme, scheme.axiom[::-1], scheme.grid.half)
    return Scheme(scheme.grid, axiom, {letter: scheme[letter].backward().row for letter in scheme.letters})


def begun_scheme(scheme, index):
    """The closed scheme whose axiom begins with another item of this one."""
    check_scheme(scheme)
    if not scheme.is_closed:
        raise InvalidOperation("an open line begins where it begins")
    if not is_count(index) or index >= len(scheme.axiom):
        raise InvalidNumber(index)
    return Scheme(scheme.grid, scheme.axiom[index:] + scheme.axiom[:index], _rows(scheme, scheme.letters))


def _renamed_row(row, letters):
    return tuple([(letters[letter], turn) for letter, turn in row])


def renamed_scheme(scheme, letters):
    """The scheme with other letters, by a dict from just its letters to different ones."""
    check_scheme(scheme)
    if not is_renaming(scheme.letters, letters) or len({letters[own] for own in scheme.letters}) < len(scheme.letters):
        raise InvalidOperation("a renaming is a dict from just the letters of the scheme to different ones")
    rules = {letters[own]: _renamed_row(scheme[own].row, letters) for own in scheme.letters}
    return Scheme(scheme.grid, _renamed_row(scheme.axiom, letters), rules)


def powered(scheme, power):
    """The scheme whose lines of each order are those of this one of so many times this order."""
    check_scheme(scheme)
    if not is_integer(power) or power < 1:
        raise InvalidNumber(power)
    # Each rule has two items at least: powers that are greater than twelve give too many all the more.
    least = min(power, MAX_ITEMS)
    if max([many_after(scheme, ((letter, 0),), least) for letter in scheme.letters]) > MAX_ITEMS:
        raise TooMany(MAX_ITEMS)
    return Scheme(scheme.grid, scheme.axiom, {letter: sequel(scheme, letter, power) for letter in scheme.letters})


def spared(scheme):
    """The scheme without the letters that its lines never have."""
    check_scheme(scheme)
    return Scheme(scheme.grid, scheme.axiom, _rows(scheme, scheme.used))


def _leaders(scheme):
    """The dict from the letters that lines have to the least letters with the same sequels."""
    leaders = {letter: scheme.used[0] for letter in scheme.used}
    parts = 0
    # Letters stay together as long as their rules tell the same, with the leaders of the round before.
    while parts < len({leaders[letter] for letter in leaders}):
        parts = len({leaders[letter] for letter in leaders})
        known = {}
        told = {letter: (leaders[letter], _renamed_row(scheme[letter].row, leaders)) for letter in scheme.used}
        leaders = {letter: known.setdefault(told[letter], letter) for letter in scheme.used}
    return leaders


def least_scheme(scheme):
    """The even scheme with the fewest letters that draws alike."""
    check_scheme(scheme)
    if not scheme.is_even:
        raise InvalidOperation("a scheme is asked for of which all rules have equally many items")
    leaders = _leaders(scheme)
    rules = {letter: _renamed_row(scheme[letter].row, leaders) for letter in scheme.used if leaders[letter] == letter}
    return Scheme(scheme.grid, _renamed_row(scheme.axiom, leaders), rules)
