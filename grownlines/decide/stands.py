"""Stands: what one visit sees of another one, and what it sees when both are followed."""

from grownlines.base.points import minus, norm_in, plus, take_turns, times, turned_by
from grownlines.base.rules import is_turn
from grownlines.base.words import is_point
from grownlines.errors import InvalidOperation, InvalidStand
from grownlines.lines.grown import check_scheme
from grownlines.visits.kinds import (check_address_order, check_kind, ends_of, first_visits, is_address_of, is_kind,
                                     visit_by, what_comes)
from grownlines.visits.meetings import check_fault


def _check_stand(scheme, stand):
    if not is_stand(scheme, stand):
        raise InvalidStand("a stand is two kinds, a turn and a vector")


def reach(scheme):
    """The reach of a scheme."""
    check_scheme(scheme)
    grid = scheme.grid
    norm = norm_in(grid, scheme.growth)
    greatest = greatest_start(scheme)
    less = 0
    while not _is_wide(less, norm, greatest):
        less += 1
    return less + 1


def greatest_start(scheme):
    """The greatest norm of a point at which a step of a rule begins."""
    return max([norm_in(scheme.grid, start) for letter in scheme.letters for start in scheme[letter].starts])


def _is_wide(less, norm, greatest):
    """Whether `less` times (the root of the norm, less 1) is at least twice the root of the greatest norm."""
    # Both sides are squared, and what is left of the roots once more.
    left = less * less * (norm - 1) - 4 * greatest
    return left >= 0 and left * left >= 16 * less * less * greatest


def far_norm(scheme):
    """The greatest norm of the vector of a stand that is not far."""
    own = reach(scheme)
    return own * own


def is_stand(scheme, value):
    """Whether the value has the form of a stand."""
    check_scheme(scheme)
    if not isinstance(value, tuple) or len(value) != 4 or not is_turn(scheme.grid, value[2]):
        return False
    return is_kind(scheme, value[0]) and is_kind(scheme, value[1]) and is_point(value[3])


def seen_from(grid, visit, other):
    """The stand of two visits, each a triple (kind, direction, point)."""
    turn = (other[1] - visit[1]) % len(grid.units)
    return (visit[0], other[0], turn, turned_by(grid, minus(other[2], visit[2]), -visit[1]))


def stand_of(scheme, order, one, other):
    """The stand of two visits of an order, told by their addresses."""
    check_scheme(scheme)
    check_address_order(order)
    for address in (one, other):
        if not is_address_of(scheme, order, address):
            raise InvalidOperation("addresses of visits of this order are asked for")
    if not one < other:
        raise InvalidOperation("the first visit is the one with the lesser number")
    return seen_from(scheme.grid, visit_by(scheme, one), visit_by(scheme, other))


def is_far(scheme, stand):
    """Whether a stand is far."""
    check_scheme(scheme)
    _check_stand(scheme, stand)
    return norm_in(scheme.grid, stand[3]) > far_norm(scheme)


def is_shown(scheme, stand, fault):
    """Whether a stand shows a fault."""
    check_scheme(scheme)
    _check_stand(scheme, stand)
    check_fault(fault)
    return shows(scheme.grid, stand, fault)


def shows(grid, stand, fault):
    """As `is_shown`, of a stand and a fault that are known to be such."""
    kind, other, turn, vector = stand
    return (turn, vector) in showing(grid, fault) and may_show(grid, kind, other, turn, fault)


def showing(grid, fault):
    """The list of the pairs of a turn and a vector that stands which show a fault have, ascending."""
    if fault == "edge":
        # The step out of the first visit leads from (0, 0) to the first unit.
        return [(0, (0, 0)), (grid.half, grid.units[0])]
    return [(turn, (0, 0)) for turn in range(len(grid.units))]


def may_show(grid, kind, other, turn, fault):
    """Whether a stand with these kinds and one of these pairs shows a fault."""
    if fault == "point":
        return True
    if kind[1] == "" or other[1] == "":
        return False
    if fault == "edge":
        return True
    ends = ends_of(grid, kind, 0)
    others = ends_of(grid, other, turn)
    return ends is not None and others is not None and take_turns(len(grid.units), ends, others)


def stands_among(grid, triples):
    """The dict from the pairs of numbers of these visits, the lesser one first, to their stands."""
    pairs = [(one, other) for one in range(len(triples)) for other in range(one + 1, len(triples))]
    return {(one, other): seen_from(grid, triples[one], triples[other]) for one, other in pairs}


def first_stands(scheme):
    """The dict from the pairs of numbers of visits of order 0 to their stands."""
    check_scheme(scheme)
    return stands_among(scheme.grid, first_visits(scheme))


def stands_within(scheme, kind):
    """The dict from the pairs of numbers of visits that come from one visit to their stands."""
    check_scheme(scheme)
    check_kind(scheme, kind)
    return stands_among(scheme.grid, what_comes(scheme, kind))


def coming_stands(scheme, stand):
    """The dict from the pairs of numbers of visits that come from both visits to their stands."""
    check_scheme(scheme)
    _check_stand(scheme, stand)
    grid = scheme.grid
    kind, other, turn, vector = stand
    place = times(grid, vector, scheme.growth)
    triples = [(own, turn + more, plus(place, turned_by(grid, start, turn)))
               for own, more, start in what_comes(scheme, other)]
    return {(one, number): seen_from(grid, visit, seen) for one, visit in enumerate(what_comes(scheme, kind))
            for number, seen in enumerate(triples)}
