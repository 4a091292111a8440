"""Meetings by force: the line of one order is drawn and looked at, visit by visit."""

from grownlines.base.points import take_turns
from grownlines.errors import InvalidOperation, TooMany
from grownlines.lines.grown import check_order, check_scheme, length_of
from grownlines.lines.pens import Pen

FAULTS = ("point", "edge", "cross")
MAX_FORCE = 5000

# The ends of a visit that has not two of them.
_NO_ENDS = -1


def check_fault(fault):
    """Refuse what is no fault."""
    if fault not in FAULTS:
        raise InvalidOperation("a fault is one of FAULTS")


def _check_length(scheme, order):
    if length_of(scheme, order) > MAX_FORCE:
        raise TooMany(MAX_FORCE)


def _edges(places):
    """The edges of all steps, each told by the sum of its points."""
    return [one + other for one, other in zip(places, places[1:])]


def _numbers(marks):
    """The dict from marks that are there several times to the ascending lists of their numbers."""
    numbers = {}
    for number, mark in enumerate(marks):
        if mark in numbers:
            numbers[mark].append(number)
        else:
            numbers[mark] = [number]
    return {mark: numbers[mark] for mark in numbers if len(numbers[mark]) > 1}


def _ends(scheme, line):
    """For each visit the direction of its step in times the number of directions, plus that of its step out."""
    many = len(scheme.grid.units)
    directions = [step % many for step in line]
    ends = [one * many + other for one, other in zip(directions, directions[1:])]
    if scheme.is_closed:
        return [directions[-1] * many + directions[0]] + ends
    return [_NO_ENDS] + ends + [_NO_ENDS]


def _do_cross(grid, one, other):
    """Whether two visits at one point cross, by their ends."""
    if one == _NO_ENDS or other == _NO_ENDS:
        return False
    many = len(grid.units)
    pairs = [((own // many + grid.half) % many, own % many) for own in (one, other)]
    return take_turns(many, pairs[0], pairs[1])


def _has_cross(grid, visits, ends):
    """Whether two of the visits, each told by its point and its ends, cross."""
    crossing = {}
    seen = {}
    for place, own in zip(visits, ends):
        if place not in seen:
            seen[place] = (own,)
            continue
        others = seen[place]
        for other in others:
            if (own, other) not in crossing:
                crossing[(own, other)] = _do_cross(grid, own, other)
            if crossing[(own, other)]:
                return True
        if own not in others:
            seen[place] = others + (own,)
    return False


def _faults_along(scheme, pen, line, faults):
    """The list of those of these faults that a line has."""
    places = pen.places_of(line)
    visits = pen.visits_of(places)
    several = len(set(visits)) < len(visits)
    found = []
    for fault in faults:
        if fault == "point" and several:
            found.append(fault)
        # Only a closed line of two steps has an edge twice without a point twice.
        if fault == "edge" and (several or len(line) == 2) and len(set(_edges(places))) < len(line):
            found.append(fault)
        if fault == "cross" and several and _has_cross(scheme.grid, visits, _ends(scheme, line)):
            found.append(fault)
    return found


def _pairs_along(scheme, pen, line, fault):
    """The pairs of numbers of visits or steps that meet by a fault, ascending."""
    places = pen.places_of(line)
    marks = _edges(places) if fault == "edge" else pen.visits_of(places)
    ends = _ends(scheme, line) if fault == "cross" else []
    numbers = _numbers(marks)
    crossing = {}
    for number, mark in enumerate(marks):
        if mark not in numbers:
            continue
        # The first number that is left at this mark is this one.
        later = numbers[mark][1:]
        numbers[mark] = later
        for other in later:
            if fault != "cross":
                yield (number, other)
                continue
            pair = (ends[number], ends[other])
            if pair not in crossing:
                crossing[pair] = _do_cross(scheme.grid, pair[0], pair[1])
            if crossing[pair]:
                yield (number, other)


def meetings(scheme, order, fault):
    """All pairs of numbers, the lesser one first, of visits or steps that meet by a fault."""
    check_scheme(scheme)
    check_order(order)
    check_fault(fault)
    _check_length(scheme, order)
    pen = Pen(scheme)
    line = pen.line_of(order)
    yield from _pairs_along(scheme, pen, line, fault)


def has_met(scheme, order, fault):
    """Whether the line has a fault."""
    check_scheme(scheme)
    check_order(order)
    check_fault(fault)
    _check_length(scheme, order)
    pen = Pen(scheme)
    return len(_faults_along(scheme, pen, pen.line_of(order), (fault,))) > 0


def faults_of(scheme, order):
    """The tuple of the faults that the line has."""
    check_scheme(scheme)
    check_order(order)
    _check_length(scheme, order)
    pen = Pen(scheme)
    return tuple(_faults_along(scheme, pen, pen.line_of(order), FAULTS))


def crowds(scheme, order):
    """The dict from the points with several visits to the numbers of these."""
    check_scheme(scheme)
    check_order(order)
    _check_length(scheme, order)
    pen = Pen(scheme)
    numbers = _numbers(pen.visits_of(pen.places_of(pen.line_of(order))))
    return {pen.point_of(place): tuple(numbers[place]) for place in sorted(list(numbers))}


def outline(scheme, order):
    """The dict from the edges of the line to the numbers of the steps that have them."""
    check_scheme(scheme)
    check_order(order)
    _check_length(scheme, order)
    pen = Pen(scheme)
    places = pen.places_of(pen.line_of(order))
    numbers = {}
    for number, (one, other) in enumerate(zip(places, places[1:])):
        numbers.setdefault((min(one, other), max(one, other)), []).append(number)
    points = {place: pen.point_of(place) for place in places}
    return {(points[one], points[other]): tuple(numbers[(one, other)]) for one, other in sorted(list(numbers))}


def first_meeting(scheme, fault):
    """The least order of a line with a fault, and its first two numbers that meet; None for longer lines."""
    check_scheme(scheme)
    check_fault(fault)
    pen = Pen(scheme)
    line = pen.axiom
    order = 0
    while len(_faults_along(scheme, pen, line, (fault,))) == 0:
        order += 1
        if length_of(scheme, order) > MAX_FORCE:
            return None
        line = pen.grown(line)
    for one, other in _pairs_along(scheme, pen, line, fault):
        return (order, one, other)
    return None
