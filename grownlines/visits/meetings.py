"""Meetings by force: the line of one order is drawn and looked at, visit by visit."""

from grownlines.base.points import trail
from grownlines.errors import InvalidOperation, TooMany
from grownlines.lines.grown import check_order, check_scheme, length_of, steps_of
from grownlines.visits.kinds import ends_of, visits_along

FAULTS = ("point", "edge", "cross")
MAX_FORCE = 5000


def check_fault(fault):
    """Refuse what is no fault."""
    if fault not in FAULTS:
        raise InvalidOperation("a fault is one of FAULTS")


def _drawn(scheme, order):
    """The steps of a line that is short enough."""
    if length_of(scheme, order) > MAX_FORCE:
        raise TooMany(MAX_FORCE)
    return steps_of(scheme, order)


def _edges(scheme, steps):
    """The edges of all steps, each an ascending pair of points."""
    points = trail(scheme.grid, [direction for letter, direction in steps])
    return [tuple(sorted([one, other])) for one, other in zip(points, points[1:])]


def _numbers(marks):
    """The dict from marks to the ascending lists of the numbers that have them."""
    numbers = {}
    for number, mark in enumerate(marks):
        numbers.setdefault(mark, []).append(number)
    return numbers


def _marks(scheme, steps, fault):
    """For each visit, or step, the pair of its place and of its ends there.

    Those at one place may meet; the ends are None where a visit has not two, and where they do not matter.
    """
    if fault == "edge":
        return [(edge, None) for edge in _edges(scheme, steps)]
    along = visits_along(scheme, steps)
    if fault == "point":
        return [(point, None) for kind, direction, point in along]
    return [(point, ends_of(scheme.grid, kind, direction)) for kind, direction, point in along]


def _by_places(marks):
    """The dict from places to the dicts from the ends there to the numbers with both."""
    numbers = _numbers(marks)
    places = {}
    for place, ends in numbers:
        there = places.setdefault(place, {})
        there[ends] = numbers[(place, ends)]
    return places


def _do_meet(grid, fault, ends, others):
    """Whether those with these ends meet, if they are at one place."""
    if fault != "cross":
        return True
    return ends is not None and others is not None and grid.alternate(ends, others)


def meetings(scheme, order, fault):
    """All pairs of numbers, the lesser one first, of visits or steps that meet by a fault."""
    check_scheme(scheme)
    check_order(order)
    check_fault(fault)
    marks = _marks(scheme, _drawn(scheme, order), fault)
    places = _by_places(marks)
    for number, (place, ends) in enumerate(marks):
        met = [others for others in places[place] if _do_meet(scheme.grid, fault, ends, others)]
        for later in sorted([own for others in met for own in places[place][others] if own > number]):
            yield (number, later)


def has_met(scheme, order, fault):
    """Whether the line has a fault."""
    for _ in meetings(scheme, order, fault):
        return True
    return False


def faults_of(scheme, order):
    """The tuple of the faults that the line has."""
    return tuple([fault for fault in FAULTS if has_met(scheme, order, fault)])


def crowds(scheme, order):
    """The dict from the points with several visits to the numbers of these."""
    check_scheme(scheme)
    check_order(order)
    numbers = _numbers([point for kind, direction, point in visits_along(scheme, _drawn(scheme, order))])
    return {point: tuple(numbers[point]) for point in sorted(list(numbers)) if len(numbers[point]) > 1}


def outline(scheme, order):
    """The dict from the edges of the line to the numbers of the steps that have them."""
    check_scheme(scheme)
    check_order(order)
    numbers = _numbers(_edges(scheme, _drawn(scheme, order)))
    return {edge: tuple(numbers[edge]) for edge in sorted(list(numbers))}


def first_meeting(scheme, fault):
    """The least order of a line with a fault, and its first two numbers that meet; None for longer lines."""
    check_scheme(scheme)
    check_fault(fault)
    order = 0
    while length_of(scheme, order) <= MAX_FORCE:
        for one, other in meetings(scheme, order, fault):
            return (order, one, other)
        order += 1
    return None
