"""The lines of a scheme: how many steps they have, and the steps and points themselves."""

from grownlines.base.points import plus
from grownlines.base.rules import is_turn
from grownlines.base.words import is_count
from grownlines.errors import InvalidNumber, InvalidOperation, InvalidScheme, TooMany, UnknownLetter
from grownlines.lines.schemes import Scheme
from grownlines.lines.tallies import letters_after, many_after
from grownlines.lines.turns import directions_after

MAX_ORDER = 200
MAX_STEPS = 5000


def check_scheme(scheme):
    """Refuse what is no scheme."""
    if not isinstance(scheme, Scheme):
        raise InvalidScheme("a scheme is asked for")


def check_order(order):
    """Refuse what is no order that may be passed."""
    if not is_count(order) or order > MAX_ORDER:
        raise InvalidNumber(order)


def check_letter(scheme, letter):
    """Refuse what is no letter of the scheme."""
    if letter not in scheme.letters:
        raise UnknownLetter(letter)


def length_of(scheme, order):
    """How many steps the line of an order has."""
    check_scheme(scheme)
    check_order(order)
    return many_after(scheme, scheme.axiom, order)


def letter_counts(scheme, order):
    """The dict from all letters to how many steps of the line have them."""
    check_scheme(scheme)
    check_order(order)
    return letters_after(scheme, scheme.axiom, order)


def step_counts(scheme, order):
    """The dict from the steps of the line to how often it has them."""
    check_scheme(scheme)
    check_order(order)
    counts = directions_after(scheme, order)
    return {(letter, direction): many for letter in counts for direction, many in enumerate(counts[letter])
            if many > 0}


def steps_of(scheme, order):
    """The tuple of the steps of the line of an order."""
    check_scheme(scheme)
    check_order(order)
    return _grown_by(scheme, scheme.axiom, order)


def sequel(scheme, letter, order):
    """The tuple of the steps that come from a step with this letter in the direction 0."""
    check_scheme(scheme)
    check_letter(scheme, letter)
    check_order(order)
    return _grown_by(scheme, ((letter, 0),), order)


def grown(scheme, steps):
    """The tuple of the steps by which a row of steps is replaced."""
    check_scheme(scheme)
    if not isinstance(steps, tuple) or not all([_is_step(scheme, step) for step in steps]):
        raise InvalidOperation("a row of steps of the scheme is asked for")
    return _grown_by(scheme, steps, 1)


def _is_step(scheme, value):
    if not isinstance(value, tuple) or len(value) != 2:
        return False
    return value[0] in scheme.letters and is_turn(scheme.grid, value[1])


def _grown_by(scheme, steps, order):
    if many_after(scheme, steps, order) > MAX_STEPS:
        raise TooMany(MAX_STEPS)
    line = steps
    for _ in range(order):
        line = _replaced(scheme, line)
    return line


def _replaced(scheme, steps):
    # Each of the few different steps is replaced once only.
    rows = {(letter, direction): scheme[letter].drawn(direction) for letter, direction in sorted(set(steps))}
    return tuple([new for step in steps for new in rows[step]])


def each_step(scheme, order):
    """The steps of the line, one by one."""
    check_scheme(scheme)
    check_order(order)
    waiting = [(step, order) for step in scheme.axiom[::-1]]
    while waiting:
        step, left = waiting.pop()
        if left == 0:
            yield step
        else:
            waiting.extend([(new, left - 1) for new in _replaced(scheme, (step,))[::-1]])


def each_point(scheme, order):
    """The points of all visits of the line, one by one."""
    # Wrong arguments are refused where the first step is asked for.
    point = (0, 0)
    for _, direction in each_step(scheme, order):
        yield point
        point = plus(point, scheme.grid.units[direction])
    if not scheme.is_closed:
        yield point
