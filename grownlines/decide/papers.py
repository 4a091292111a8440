"""Papers: what shows that a scheme is clear of a fault, or that it meets it."""

from grownlines.decide.codes import Codes, code_of
from grownlines.decide.found import Found
from grownlines.decide.judged import told_of
from grownlines.decide.nearness import Nearness
from grownlines.decide.searches import chain_of, numbers_along, search
from grownlines.decide.stands import seen_from, shows
from grownlines.decide.tables import MAX_TABLE
from grownlines.errors import InvalidOperation, TooMany
from grownlines.lines.grown import MAX_ORDER, check_scheme
from grownlines.lines.places import leads_to_visit
from grownlines.visits.kinds import MAX_ADDRESS_ORDER, children_from, many_visits, visit_by
from grownlines.visits.meetings import MAX_FORCE, check_fault, meetings


def first_order(scheme, fault):
    """The first order of the scheme for a fault, None if it is clear of it."""
    check_scheme(scheme)
    check_fault(fault)
    return Found(scheme, MAX_TABLE, fault).order_with(fault)


def is_clear(scheme, fault):
    """Whether the scheme is clear of a fault."""
    return first_order(scheme, fault) is None


def paper(scheme, fault):
    """A paper for the scheme and a fault."""
    check_scheme(scheme)
    check_fault(fault)
    found = Found(scheme, MAX_TABLE, fault)
    order, code = found.first_of(found.wrong(fault))
    if order is None:
        return ("clear", found.codes.kinds, found.all_stands())
    one, other = found.pair_of(scheme, code)
    return ("meets", one, other)


def is_paper(scheme, fault, value):
    """Whether the value is a paper for the scheme and a fault."""
    check_scheme(scheme)
    check_fault(fault)
    if not isinstance(value, tuple) or len(value) != 3:
        return False
    if value[0] == "clear":
        return _is_clear_paper(scheme, fault, value[1], value[2])
    return value[0] == "meets" and _is_meeting_paper(scheme, fault, value[1], value[2])


def _is_clear_paper(scheme, fault, kinds, stands):
    told = told_of(scheme, kinds, stands)
    return told is not None and not told.shows(fault) and told.is_complete()


def _are_addresses(scheme, one, other):
    """Whether two values are the addresses of visits of one order, the first one less."""
    if not isinstance(one, tuple) or not isinstance(other, tuple) or len(one) != len(other):
        return False
    if not 1 <= len(one) <= MAX_ADDRESS_ORDER + 1:
        return False
    return leads_to_visit(scheme, one) and leads_to_visit(scheme, other) and one < other


def _stand_between(scheme, one, other):
    return seen_from(scheme.grid, visit_by(scheme, one), visit_by(scheme, other))


def _is_meeting_paper(scheme, fault, one, other):
    return _are_addresses(scheme, one, other) and shows(scheme.grid, _stand_between(scheme, one, other), fault)


def meeting(scheme, fault):
    """The first order for a fault, and the least pair of numbers of visits that show it there."""
    order = first_order(scheme, fault)
    if order is None:
        return None
    if order > MAX_ORDER:
        raise TooMany(MAX_ORDER)
    if many_visits(scheme, order) > MAX_FORCE:
        raise TooMany(MAX_FORCE)
    # The number of a step is that of the visit whose step out it is.
    for one, other in meetings(scheme, order, fault):
        return (order, one, other)
    return None


def lift(scheme, one, other):
    """The least order at which what comes from two visits has a point in common, and the addresses there."""
    check_scheme(scheme)
    if not _are_addresses(scheme, one, other):
        raise InvalidOperation("addresses of two visits of one order are asked for")
    start = _stand_between(scheme, one, other)
    nearness = Nearness(scheme)
    if not nearness.is_near(start[3]):
        return None
    codes = Codes(scheme, nearness, children_from(scheme, start[:2]))
    found = search(codes, [code_of(codes, start)], MAX_TABLE, {}, "point")
    if found is None:
        raise TooMany(MAX_TABLE)
    origins, _, pairs = found
    met = [(len(chain_of(origins, code)), code) for code in codes.close_codes(pairs, "point") if code in origins]
    if len(met) == 0:
        return None
    _, code = min(met)
    pairs = numbers_along(codes, scheme, chain_of(origins, code))
    return (len(one) - 1 + len(pairs), one + tuple([number for number, _ in pairs]),
            other + tuple([number for _, number in pairs]))
