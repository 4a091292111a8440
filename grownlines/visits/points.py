"""All visits at a point, of lines of any order up to 200.

A point of order n is a point of the order before times the growth, plus a
digit: a point at which a step of a rule begins. So the points from which the
told one may come are few in each order, and only the steps that begin there
are followed. They are told as offsets from one chosen point of each order.
"""

from grownlines.base.points import flipped, minus, norm_in, plus, times, trail
from grownlines.base.words import is_point
from grownlines.errors import InvalidOperation, InvalidPoint, TooMany
from grownlines.lines.grown import check_order, check_scheme, length_of
from grownlines.lines.links import links_of
from grownlines.lines.places import end_of
from grownlines.lines.tallies import added_up, step_tallies

MAX_LISTED = 1000

# What the steps of the axiom come from.
_ROOT = ("", 0)


def _check_point(point):
    if not is_point(point):
        raise InvalidPoint("a point is a pair of integers")


def _rests(scheme, order, point):
    """The chosen point of order 0, and for each order what the next one has more than this times the growth."""
    grid = scheme.grid
    norm = norm_in(grid, scheme.growth)
    rests = []
    last = point
    for _ in range(order):
        raw = times(grid, last, flipped(grid, scheme.growth))
        before = (raw[0] // norm, raw[1] // norm)
        rests.append(minus(last, times(grid, before, scheme.growth)))
        last = before
    return [last] + rests[::-1]


def _digits(scheme, links):
    """The dict from residues by the growth to the lists of all digits with them, times its conjugate."""
    grid = scheme.grid
    norm = norm_in(grid, scheme.growth)
    starts = {start: True for step in links for start, _ in links[step]}
    digits = {}
    for start in starts:
        raw = times(grid, start, flipped(grid, scheme.growth))
        digits.setdefault((raw[0] % norm, raw[1] % norm), []).append(raw)
    return digits


def _targets(scheme, links, rests):
    """For each order the dict of the offsets from which the told point may come."""
    grid = scheme.grid
    norm = norm_in(grid, scheme.growth)
    digits = _digits(scheme, links)
    levels = [{(0, 0): True}]
    for rest in rests[:0:-1]:
        level = {}
        for offset in levels[-1]:
            raw = times(grid, plus(offset, rest), flipped(grid, scheme.growth))
            for digit in digits.get((raw[0] % norm, raw[1] % norm), []):
                level[((raw[0] - digit[0]) // norm, (raw[1] - digit[1]) // norm)] = True
        levels.append(level)
    return levels[::-1]


def _following(scheme, links, key, rest):
    """The pairs of the steps that come from one and of their offsets, in their order."""
    step, offset = key
    base = minus(times(scheme.grid, offset, scheme.growth), rest)
    return [(new, plus(base, start)) for start, new in links[step]]


def _search(scheme, order, point, directions):
    """The steps of each order from which steps come that begin at a point and have one of the directions.

    That is the triple of what comes from the steps, of the rests, and of the dicts, order by order, from steps
    and their offsets to how often they are there. Not all of them lead to the end.
    """
    rests = _rests(scheme, order, point)
    links = links_of(scheme)
    targets = _targets(scheme, links, rests)
    starts = trail(scheme.grid, [direction for letter, direction in scheme.axiom])
    links[_ROOT] = list(zip(starts, scheme.axiom))
    levels = [{(_ROOT, (0, 0)): 1}]
    for rest, allowed in zip(rests, targets):
        last = levels[-1]
        levels.append(added_up([(child, last[key]) for key in last for child in _following(scheme, links, key, rest)
                                if child[1] in allowed]))
    ends = levels.pop()
    return (links, rests, levels + [{key: ends[key] for key in ends if key[0][1] in directions}])


def _many_found(search):
    ends = search[2][-1]
    return sum([ends[key] for key in ends])


def _numbers_found(scheme, order, search):
    """The ascending list of the numbers of the steps that were searched."""
    links, rests, levels = search
    groups, weights_ahead = step_tallies(scheme, order)
    # For each step the numbers of the found ones that come from it, from the first step that comes from it on.
    numbers = {key: [0] for key in levels[-1]}
    for at in range(order, -1, -1):
        weights = {letter: weights_ahead[order - at][groups[letter]] for letter in groups}
        below = {}
        for key in levels[at]:
            found = _numbered(_following(scheme, links, key, rests[at]), weights, numbers)
            if len(found) > 0:
                below[key] = found
        numbers = below
    return numbers.get((_ROOT, (0, 0)), [])


def _numbered(row, weights, numbers):
    found = []
    ahead = 0
    for step, offset in row:
        found.extend([ahead + number for number in numbers.get((step, offset), [])])
        ahead = ahead + weights[step[0]]
    return found


def _visits_found(scheme, order, point):
    return _search(scheme, order, point, tuple(range(len(scheme.grid.units))))


def _is_end(scheme, order, point):
    """Whether the line is open and ends at the point."""
    return not scheme.is_closed and end_of(scheme, order) == point


def count_at(scheme, order, point):
    """How many visits of the line are at a point."""
    check_scheme(scheme)
    check_order(order)
    _check_point(point)
    return _many_found(_visits_found(scheme, order, point)) + (1 if _is_end(scheme, order, point) else 0)


def is_passed(scheme, order, value):
    """Whether the value is a point with a visit of the line."""
    check_scheme(scheme)
    check_order(order)
    return is_point(value) and count_at(scheme, order, value) > 0


def visits_at(scheme, order, point):
    """The ascending tuple of the numbers of the visits at a point."""
    check_scheme(scheme)
    check_order(order)
    _check_point(point)
    search = _visits_found(scheme, order, point)
    last = [length_of(scheme, order)] if _is_end(scheme, order, point) else []
    if _many_found(search) + len(last) > MAX_LISTED:
        raise TooMany(MAX_LISTED)
    return tuple(_numbers_found(scheme, order, search) + last)


def steps_on(scheme, order, one, other):
    """The ascending tuple of the numbers of the steps whose edge joins two points."""
    check_scheme(scheme)
    check_order(order)
    _check_point(one)
    _check_point(other)
    units = scheme.grid.units
    if minus(other, one) not in units:
        raise InvalidOperation("no unit leads from one point to the other")
    found = [_search(scheme, order, one, (units.index(minus(other, one)),)),
             _search(scheme, order, other, (units.index(minus(one, other)),))]
    if sum([_many_found(search) for search in found]) > MAX_LISTED:
        raise TooMany(MAX_LISTED)
    return tuple(sorted([number for search in found for number in _numbers_found(scheme, order, search)]))
