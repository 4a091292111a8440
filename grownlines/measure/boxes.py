"""How far lines of great orders reach, what area they go around, and how much they turn."""

from grownlines.base.points import norm_in, raised, times, trail, turned_by
from grownlines.base.words import is_point
from grownlines.errors import InvalidPoint
from grownlines.lines.grown import check_order, check_scheme
from grownlines.lines.links import links_of
from grownlines.lines.places import number_of
from grownlines.visits.kinds import count_kinds


def _value(weights, point):
    return weights[0] * point[0] + weights[1] * point[1]


def _levels(scheme, order, weights, links):
    """By orders: for each step the greatest value of a visit that comes from it, and the item to follow.

    Values are told from the beginning of the step; of equal ones the first is followed.
    """
    starts = {start: True for step in links for start, _ in links[step]}
    levels = [{step: (0, 0) for step in links}]
    power = (1, 0)
    for _ in range(order):
        last = levels[-1]
        # Values of products with a power are values with other weights, found once for all steps.
        moved = (_value(weights, power), _value(weights, times(scheme.grid, (0, 1), power)))
        values = {start: _value(moved, start) for start in starts}
        level = {}
        for step in links:
            totals = [values[start] + last[new][0] for start, new in links[step]]
            best = max(totals)
            level[step] = (best, totals.index(best))
        levels.append(level)
        power = times(scheme.grid, power, scheme.growth)
    return levels


def _totals(scheme, weights, levels, turn):
    """The greatest values of what comes from each visit of order 0 of the line, turned."""
    grid = scheme.grid
    power = turned_by(grid, raised(grid, scheme.growth, len(levels) - 1), turn)
    points = trail(grid, [direction for letter, direction in scheme.axiom])
    values = [_value(weights, times(grid, point, power)) for point in points]
    many = len(grid.units)
    ahead = [levels[-1][(letter, (direction + turn) % many)][0] for letter, direction in scheme.axiom]
    totals = [value + more for value, more in zip(values, ahead)]
    return totals if scheme.is_closed else totals + values[-1:]


def _address_by(scheme, levels, links, index):
    """The address to which the items to follow lead from a visit of order 0."""
    address = [index]
    if index == len(scheme.axiom):
        return (index,) + (0,) * (len(levels) - 1)
    step = scheme.axiom[index]
    for level in levels[:0:-1]:
        address.append(level[step][1])
        step = links[step][address[-1]][1]
    return tuple(address)


def farthest(scheme, order, weights):
    """The greatest value of the point of a visit, and the number of the first visit with it."""
    check_scheme(scheme)
    check_order(order)
    if not is_point(weights):
        raise InvalidPoint("weights are a pair of integers")
    links = links_of(scheme)
    levels = _levels(scheme, order, weights, links)
    totals = _totals(scheme, weights, levels, 0)
    best = max(totals)
    address = _address_by(scheme, levels, links, totals.index(best))
    return (best, number_of(scheme, address))


def box(scheme, order):
    """The least first and second parts, and the greatest ones, of the points of all visits."""
    check_scheme(scheme)
    check_order(order)
    levels = _levels(scheme, order, (1, 0), links_of(scheme))
    half = scheme.grid.half
    # Turned by 1, a point has the opposite of its second part as its first one, in both grids.
    right, down, back, high = [max(_totals(scheme, (1, 0), levels, turn)) for turn in (0, 1, half, half + 1)]
    return (-back, -down, right, high)


def _area_along(grid, steps):
    """The sum of the cross products along a row of steps from (0, 0)."""
    points = trail(grid, [direction for letter, direction in steps])
    return sum([one[0] * other[1] - one[1] * other[0] for one, other in zip(points, points[1:])])


def area(scheme, order):
    """The sum of the cross products of the points at which a step begins and ends, over all steps."""
    check_scheme(scheme)
    check_order(order)
    norm = norm_in(scheme.grid, scheme.growth)
    own = {letter: _area_along(scheme.grid, scheme[letter].row) for letter in scheme.letters}
    level = {letter: 0 for letter in scheme.letters}
    scale = 1
    for _ in range(order):
        # A product with the growth has a cross product so many times as great, wherever the row begins.
        level = {letter: scale * own[letter] + sum([level[other] for other, _ in scheme[letter]]) for letter in own}
        scale = scale * norm
    return scale * _area_along(scheme.grid, scheme.axiom) + sum([level[letter] for letter, _ in scheme.axiom])


def total_turn(scheme, order):
    """The sum of the bends of all visits with a step in and a step out."""
    counts = count_kinds(scheme, order)
    return sum([counts[kind] * _bend(scheme.grid, kind) for kind in counts])


def _bend(grid, kind):
    # A kind without a step in or out has the turn 0.
    return kind[2] if kind[2] <= grid.half else kind[2] - len(grid.units)
