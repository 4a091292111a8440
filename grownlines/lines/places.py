"""Steps, points and kinds at places of lines that are far too long to be drawn.

A step is told by its trace: the number of an item of the axiom, and then in
each order the number of an item of the rule of the step before. The trace of
its step out is the address of a visit. Where all rules have equally many
items, the trace is the row of the digits of the step's number.
"""

from grownlines.base.points import in_powers, raised, times, trail, turned_by
from grownlines.base.words import is_count
from grownlines.errors import InvalidNumber, UnknownAddress
from grownlines.lines.grown import MAX_ORDER, check_letter, check_order, check_scheme
from grownlines.lines.tallies import letter_tallies, letters_after, many_after, step_tallies, weight_of


# What stands for the letter of which the axiom is the rule.
_AXIOM = ""


def _check_below(number, many):
    if not is_count(number) or number >= many:
        raise InvalidNumber(number)


def _sizes(scheme, order):
    """The pair of how many steps the line has, and of the tallies of all steps if the numbers need them."""
    check_scheme(scheme)
    check_order(order)
    if scheme.is_even:
        return (many_after(scheme, scheme.axiom, order), None)
    tally = step_tallies(scheme, order)
    return (weight_of(scheme.axiom, tally, order), tally)


def _sizes_with_visit(scheme, order, number):
    """The sizes of a line, where the number is that of a visit."""
    steps, tally = _sizes(scheme, order)
    _check_below(number, steps if scheme.is_closed else steps + 1)
    return (steps, tally)


def _rows(scheme, groups):
    """The dicts from each letter, and from the axiom, to the letters of its items and to their groups."""
    rows = {letter: [other for other, turn in scheme[letter].row] for letter in scheme.letters}
    rows[_AXIOM] = [letter for letter, turn in scheme.axiom]
    return (rows, {letter: [groups[other] for other in rows[letter]] for letter in rows})


def _base(scheme):
    """How many items each rule of an even scheme has."""
    return len(scheme[scheme.letters[0]].row)


def _digits(number, base, order):
    """So many digits of a number, and ahead of them what is left of it."""
    digits = []
    left = number
    for _ in range(order):
        left, digit = divmod(left, base)
        digits.append(digit)
    return tuple([left] + digits[::-1])


def _trace(scheme, order, tally, number):
    """The trace of the step with a number."""
    if scheme.is_even:
        return _digits(number, _base(scheme), order)
    return _trace_by(scheme, tally, number)


def _trace_by(scheme, tally, weight):
    """The trace of the step that has just this weight ahead of it, and a weight itself."""
    groups, levels = tally
    rows, members = _rows(scheme, groups)
    trace = []
    letter = _AXIOM
    left = weight
    for level in levels[::-1]:
        index = 0
        own = level[members[letter][0]]
        while left >= own:
            left = left - own
            index += 1
            own = level[members[letter][index]]
        trace.append(index)
        letter = rows[letter][index]
    return tuple(trace)


def _number_by(scheme, trace):
    """The number of the step with this trace."""
    if not scheme.is_even:
        return _weight_ahead(scheme, step_tallies(scheme, len(trace) - 1), trace)
    base = _base(scheme)
    number = 0
    for digit in trace:
        number = number * base + digit
    return number


def _weight_ahead(scheme, tally, trace):
    """The weight of all steps ahead of the one with this trace."""
    groups, levels = tally
    rows, members = _rows(scheme, groups)
    total = 0
    letter = _AXIOM
    for index, level in zip(trace, levels[::-1]):
        total = total + sum([level[group] for group in members[letter][:index]])
        letter = rows[letter][index]
    return total


def _steps_along(scheme, trace):
    """The steps of a trace, from order 0 on."""
    rows = {own: scheme[own].row for own in scheme.letters}
    many = len(scheme.grid.units)
    letter, direction = scheme.axiom[trace[0]]
    steps = [(letter, direction)]
    for index in trace[1:]:
        letter, turn = rows[letter][index]
        direction = (direction + turn) % many
        steps.append((letter, direction))
    return steps


def _step_by(scheme, order, tally, number):
    return _steps_along(scheme, _trace(scheme, order, tally, number))[-1]


def _end_by(scheme, order):
    axiom_end = trail(scheme.grid, [turn for letter, turn in scheme.axiom])[-1]
    return times(scheme.grid, axiom_end, raised(scheme.grid, scheme.growth, order))


def _begin_by(scheme, trace):
    """The point at which the step with this trace begins."""
    grid = scheme.grid
    digits = [trail(grid, [turn for letter, turn in scheme.axiom])[trace[0]]]
    for (letter, direction), index in zip(_steps_along(scheme, trace), trace[1:]):
        digits.append(turned_by(grid, scheme[letter].starts[index], direction))
    return in_powers(grid, scheme.growth, digits)


def step_at(scheme, order, number):
    """The step with a number."""
    steps, tally = _sizes(scheme, order)
    _check_below(number, steps)
    return _step_by(scheme, order, tally, number)


def point_at(scheme, order, number):
    """The point of the visit with a number."""
    steps, tally = _sizes_with_visit(scheme, order, number)
    if number == steps:
        return _end_by(scheme, order)
    return _begin_by(scheme, _trace(scheme, order, tally, number))


def end_of(scheme, order):
    """The point at which the line ends."""
    check_scheme(scheme)
    check_order(order)
    return _end_by(scheme, order)


def address_of(scheme, order, number):
    """The address of the visit with a number."""
    steps, tally = _sizes_with_visit(scheme, order, number)
    if number == steps:
        return (len(scheme.axiom),) + (0,) * order
    return _trace(scheme, order, tally, number)


def number_of(scheme, address):
    """The number of the visit with an address."""
    if not is_address(scheme, address):
        raise UnknownAddress(address)
    if address[0] == len(scheme.axiom):
        return many_after(scheme, scheme.axiom, len(address) - 1)
    return _number_by(scheme, address)


def is_address(scheme, value):
    """Whether the value is the address of a visit, of an order up to 200."""
    check_scheme(scheme)
    return isinstance(value, tuple) and 1 <= len(value) <= MAX_ORDER + 1 and leads_to_visit(scheme, value)


def leads_to_visit(scheme, numbers):
    """Whether a tuple is the address of a visit, of an order of any size."""
    if not all([is_count(index) for index in numbers]):
        return False
    if numbers[0] == len(scheme.axiom):
        # From the last visit of an open line, which has no step out, only number 0 comes.
        return not scheme.is_closed and not any([index > 0 for index in numbers[1:]])
    return _is_trace(scheme, numbers)


def _is_trace(scheme, value):
    row = scheme.axiom
    for index in value:
        if index >= len(row):
            return False
        row = scheme[row[index][0]].row
    return True


def kind_at(scheme, order, number):
    """The kind of the visit with a number."""
    steps, tally = _sizes_with_visit(scheme, order, number)
    before = steps - 1 if scheme.is_closed and number == 0 else number - 1
    step_in = _step_by(scheme, order, tally, before) if before >= 0 else None
    step_out = _step_by(scheme, order, tally, number) if number < steps else None
    return kind_between(scheme.grid, step_in, step_out)


def kind_between(grid, step_in, step_out):
    """The kind of a visit with these two steps, None for one that is missing."""
    if step_in is None:
        return ("", step_out[0], 0)
    if step_out is None:
        return (step_in[0], "", 0)
    return (step_in[0], step_out[0], (step_out[1] - step_in[1]) % len(grid.units))


def steps_with(scheme, order, letter, number):
    """How many of the steps ahead of a number have a letter."""
    steps, tally = _sizes(scheme, order)
    check_letter(scheme, letter)
    _check_below(number, steps + 1)
    if number == steps:
        return letters_after(scheme, scheme.axiom, order)[letter]
    counted = letter_tallies(scheme, order, letter)
    return _weight_ahead(scheme, counted, _trace(scheme, order, tally, number))


def nth_step(scheme, order, letter, index):
    """The number of the step that has just so many steps with its letter, the told one, ahead of it."""
    check_scheme(scheme)
    check_order(order)
    check_letter(scheme, letter)
    counted = letter_tallies(scheme, order, letter)
    _check_below(index, weight_of(scheme.axiom, counted, order))
    return _number_by(scheme, _trace_by(scheme, counted, index))
