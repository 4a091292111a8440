"""Steps, points and kinds at places of lines that are far too long to be drawn.

A step is told by its trace: the number of an item of the axiom, and then in
each order the number of an item of the rule of the step before. The trace of
its step out is the address of a visit.
"""

from grownlines.base.points import plus, raised, times, trail, turned_by
from grownlines.base.words import is_count
from grownlines.errors import InvalidNumber, UnknownAddress
from grownlines.lines.grown import MAX_ORDER, check_letter, check_order, check_scheme
from grownlines.lines.tallies import letter_tallies, step_tallies, weight_of


def _check_below(number, many):
    if not is_count(number) or number >= many:
        raise InvalidNumber(number)


def _line_sizes(scheme, order):
    """The tallies of all steps up to an order, and how many steps its line has."""
    check_scheme(scheme)
    check_order(order)
    levels = step_tallies(scheme, order)
    return (levels, weight_of(scheme.axiom, levels[order]))


def _visit_sizes(scheme, order, number):
    """The sizes of a line, where the number is that of a visit."""
    levels, steps = _line_sizes(scheme, order)
    _check_below(number, steps if scheme.is_closed else steps + 1)
    return (levels, steps)


def _part_of(row, level, number):
    """The pair of the item from which comes what has this number, and of its number there."""
    index = 0
    left = number
    while left >= level[row[index][0]]:
        left = left - level[row[index][0]]
        index += 1
    return (index, left)


def _trace(scheme, levels, number):
    """The trace of the step that has just this weight ahead of it, and a weight itself."""
    trace = []
    row = scheme.axiom
    left = number
    for level in levels[::-1]:
        index, left = _part_of(row, level, left)
        trace.append(index)
        row = scheme[row[index][0]].row
    return tuple(trace)


def _steps_along(scheme, trace):
    """The steps of a trace, from order 0 on."""
    step = scheme.axiom[trace[0]]
    steps = [step]
    for index in trace[1:]:
        step = scheme[step[0]].drawn(step[1])[index]
        steps.append(step)
    return steps


def _step_by(scheme, levels, number):
    return _steps_along(scheme, _trace(scheme, levels, number))[-1]


def _weight_ahead(scheme, levels, trace):
    """The weight of all steps ahead of the one with this trace."""
    total = 0
    row = scheme.axiom
    for index, level in zip(trace, levels[::-1]):
        total = total + weight_of(row[:index], level)
        row = scheme[row[index][0]].row
    return total


def _end_by(scheme, order):
    axiom_end = trail(scheme.grid, [turn for letter, turn in scheme.axiom])[-1]
    return times(scheme.grid, axiom_end, raised(scheme.grid, scheme.growth, order))


def _begin_by(scheme, trace):
    """The point at which the step with this trace begins."""
    grid = scheme.grid
    point = trail(grid, [turn for letter, turn in scheme.axiom])[trace[0]]
    for step, index in zip(_steps_along(scheme, trace), trace[1:]):
        start = scheme[step[0]].starts[index]
        point = plus(times(grid, point, scheme.growth), turned_by(grid, start, step[1]))
    return point


def step_at(scheme, order, number):
    """The step with a number."""
    levels, steps = _line_sizes(scheme, order)
    _check_below(number, steps)
    return _step_by(scheme, levels, number)


def point_at(scheme, order, number):
    """The point of the visit with a number."""
    levels, steps = _visit_sizes(scheme, order, number)
    if number == steps:
        return _end_by(scheme, order)
    return _begin_by(scheme, _trace(scheme, levels, number))


def end_of(scheme, order):
    """The point at which the line ends."""
    check_scheme(scheme)
    check_order(order)
    return _end_by(scheme, order)


def address_of(scheme, order, number):
    """The address of the visit with a number."""
    levels, steps = _visit_sizes(scheme, order, number)
    if number == steps:
        return (len(scheme.axiom),) + (0,) * order
    return _trace(scheme, levels, number)


def number_of(scheme, address):
    """The number of the visit with an address."""
    if not is_address(scheme, address):
        raise UnknownAddress(address)
    levels = step_tallies(scheme, len(address) - 1)
    if address[0] == len(scheme.axiom):
        return weight_of(scheme.axiom, levels[-1])
    return _weight_ahead(scheme, levels, address)


def is_address(scheme, value):
    """Whether the value is the address of a visit, of an order up to 200."""
    check_scheme(scheme)
    return isinstance(value, tuple) and 1 <= len(value) <= MAX_ORDER + 1 and leads_to_visit(scheme, value)


def leads_to_visit(scheme, numbers):
    """Whether a tuple is the address of a visit, of an order of any size."""
    if not all([is_count(index) for index in numbers]):
        return False
    if numbers[0] == len(scheme.axiom):
        # From the last visit of an open line, which has no step out, only number 0 comes.
        return not scheme.is_closed and not any([index > 0 for index in numbers[1:]])
    return _is_trace(scheme, numbers)


def _is_trace(scheme, value):
    row = scheme.axiom
    for index in value:
        if index >= len(row):
            return False
        row = scheme[row[index][0]].row
    return True


def kind_at(scheme, order, number):
    """The kind of the visit with a number."""
    levels, steps = _visit_sizes(scheme, order, number)
    before = steps - 1 if scheme.is_closed and number == 0 else number - 1
    step_in = _step_by(scheme, levels, before) if before >= 0 else None
    step_out = _step_by(scheme, levels, number) if number < steps else None
    return kind_between(scheme.grid, step_in, step_out)


def kind_between(grid, step_in, step_out):
    """The kind of a visit with these two steps, None for one that is missing."""
    if step_in is None:
        return ("", step_out[0], 0)
    if step_out is None:
        return (step_in[0], "", 0)
    return (step_in[0], step_out[0], (step_out[1] - step_in[1]) % len(grid.units))


def steps_with(scheme, order, letter, number):
    """How many of the steps ahead of a number have a letter."""
    levels, steps = _line_sizes(scheme, order)
    check_letter(scheme, letter)
    _check_below(number, steps + 1)
    counted = letter_tallies(scheme, order, letter)
    if number == steps:
        return weight_of(scheme.axiom, counted[order])
    return _weight_ahead(scheme, counted, _trace(scheme, levels, number))


def nth_step(scheme, order, letter, index):
    """The number of the step that has just so many steps with its letter, the told one, ahead of it."""
    levels, _ = _line_sizes(scheme, order)
    check_letter(scheme, letter)
    counted = letter_tallies(scheme, order, letter)
    _check_below(index, weight_of(scheme.axiom, counted[order]))
    return _weight_ahead(scheme, levels, _trace(scheme, counted, index))
