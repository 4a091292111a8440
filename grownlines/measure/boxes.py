"""How far lines of great orders reach, what area they go around, and how much they turn."""

from grownlines.base.points import norm_in, raised, times, trail, turned_by
from grownlines.base.words import is_point
from grownlines.errors import InvalidPoint
from grownlines.lines.grown import check_order, check_scheme
from grownlines.lines.links import links_of
from grownlines.lines.places import number_of
from grownlines.visits.kinds import count_kinds


def _value(weights, point):
    return weights[0] * point[0] + weights[1] * point[1]


def _plan(scheme):
    """What comes from each step, with numbers instead of steps and of places where steps begin.

    That is the triple of the dict from steps to their numbers, of the list of places, and of the list, by the
    numbers of steps, of the lists of the pairs of a place and of the step that begins there.
    """
    links = links_of(scheme)
    numbers = {step: at for at, step in enumerate(list(links))}
    places = list({start: True for step in links for start, new in links[step]})
    places_by = {place: at for at, place in enumerate(places)}
    rows = [[(places_by[start], numbers[new]) for start, new in links[step]] for step in links]
    return (numbers, places, rows)


def _levels(scheme, order, weights, plan):
    """By orders: the values of all places, and of each step the greatest value of a visit that comes from it.

    Values are told from the beginning of the step.
    """
    _, places, rows = plan
    levels = [([], [0] * len(rows))]
    power = (1, 0)
    for _ in range(order):
        last = levels[-1][1]
        # Values of products with a power are values with other weights, found once for all steps.
        u = _value(weights, power)
        v = _value(weights, times(scheme.grid, (0, 1), power))
        values = [u * x + v * y for x, y in places]
        levels.append((values, [max([values[at] + last[step] for at, step in row]) for row in rows]))
        power = times(scheme.grid, power, scheme.growth)
    return levels


def _totals(scheme, weights, plan, levels, turn):
    """The greatest values of what comes from each visit of order 0 of the line, turned."""
    grid = scheme.grid
    power = turned_by(grid, raised(grid, scheme.growth, len(levels) - 1), turn)
    points = trail(grid, [direction for letter, direction in scheme.axiom])
    values = [_value(weights, times(grid, point, power)) for point in points]
    numbers = plan[0]
    best = levels[-1][1]
    many = len(grid.units)
    ahead = [best[numbers[(letter, (direction + turn) % many)]] for letter, direction in scheme.axiom]
    totals = [value + more for value, more in zip(values, ahead)]
    return totals if scheme.is_closed else totals + values[-1:]


def _address_by(scheme, plan, levels, index):
    """The address of the first visit with the greatest value of those that come from a visit of order 0."""
    numbers, _, rows = plan
    if index == len(scheme.axiom):
        return (index,) + (0,) * (len(levels) - 1)
    address = [index]
    step = numbers[scheme.axiom[index]]
    for order in range(len(levels) - 1, 0, -1):
        values, best = levels[order]
        last = levels[order - 1][1]
        address.append([values[at] + last[new] for at, new in rows[step]].index(best[step]))
        step = rows[step][address[-1]][1]
    return tuple(address)


def farthest(scheme, order, weights):
    """The greatest value of the point of a visit, and the number of the first visit with it."""
    check_scheme(scheme)
    check_order(order)
    if not is_point(weights):
        raise InvalidPoint("weights are a pair of integers")
    plan = _plan(scheme)
    levels = _levels(scheme, order, weights, plan)
    totals = _totals(scheme, weights, plan, levels, 0)
    best = max(totals)
    return (best, number_of(scheme, _address_by(scheme, plan, levels, totals.index(best))))


def box(scheme, order):
    """The least first and second parts, and the greatest ones, of the points of all visits."""
    check_scheme(scheme)
    check_order(order)
    plan = _plan(scheme)
    levels = _levels(scheme, order, (1, 0), plan)
    half = scheme.grid.half
    # Turned by 1, a point has the opposite of its second part as its first one, in both grids.
    right, down, back, high = [max(_totals(scheme, (1, 0), plan, levels, turn))
                               for turn in (0, 1, half, half + 1)]
    return (-back, -down, right, high)


def _area_along(grid, steps):
    """The sum of the cross products along a row of steps from (0, 0)."""
    points = trail(grid, [direction for letter, direction in steps])
    return sum([one[0] * other[1] - one[1] * other[0] for one, other in zip(points, points[1:])])


def area(scheme, order):
    """The sum of the cross products of the points at which a step begins and ends, over all steps."""
    check_scheme(scheme)
    check_order(order)
    norm = norm_in(scheme.grid, scheme.growth)
    own = {letter: _area_along(scheme.grid, scheme[letter].row) for letter in scheme.letters}
    level = {letter: 0 for letter in scheme.letters}
    scale = 1
    for _ in range(order):
        # A product with the growth has a cross product so many times as great, wherever the row begins.
        level = {letter: scale * own[letter] + sum([level[other] for other, _ in scheme[letter]]) for letter in own}
        scale = scale * norm
    return scale * _area_along(scheme.grid, scheme.axiom) + sum([level[letter] for letter, _ in scheme.axiom])


def total_turn(scheme, order):
    """The sum of the bends of all visits with a step in and a step out."""
    counts = count_kinds(scheme, order)
    return sum([counts[kind] * _bend(scheme.grid, kind) for kind in counts])


def _bend(grid, kind):
    # A kind without a step in or out has the turn 0.
    return kind[2] if kind[2] <= grid.half else kind[2] - len(grid.units)
