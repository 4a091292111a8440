"""Kinds of visits, the visits of a line, and what comes from them."""

from grownlines.base.points import in_powers, trail, turned_by
from grownlines.base.rules import is_turn
from grownlines.base.words import is_count
from grownlines.errors import InvalidNumber, InvalidOperation, TooMany
from grownlines.lines.grown import MAX_STEPS, check_order, check_scheme, length_of, steps_of
from grownlines.lines.places import kind_between, leads_to_visit
from grownlines.lines.tallies import letters_by_orders

# The greatest order of which a visit is told by an address.
MAX_ADDRESS_ORDER = 20000


def check_address_order(order):
    """Refuse what is no order of which a visit is told by an address."""
    if not is_count(order) or order > MAX_ADDRESS_ORDER:
        raise InvalidNumber(order)


def check_kind(scheme, kind):
    """Refuse what has not the form of a kind."""
    if not is_kind(scheme, kind):
        raise InvalidOperation("a kind is two letters and a turn")


def is_kind(scheme, value):
    """Whether the value has the form of a kind of visits."""
    check_scheme(scheme)
    if not isinstance(value, tuple) or len(value) != 3 or not is_turn(scheme.grid, value[2]):
        return False
    before, after, turn = value
    if before == "" or after == "":
        return turn == 0 and (before in scheme.letters or after in scheme.letters)
    return before in scheme.letters and after in scheme.letters


def kinds_of(scheme):
    """The ascending tuple of the kinds that visits of some order have."""
    check_scheme(scheme)
    return kinds_from(scheme, [kind for kind, direction, point in first_visits(scheme)])


def kinds_from(scheme, kinds):
    """The ascending tuple of these kinds and of those that come from them, by any number of orders."""
    return tuple(sorted(list(children_from(scheme, kinds))))


def children_from(scheme, kinds):
    """The dict from these kinds, and those that come from them by any number of orders, to what comes from each."""
    children = {}
    waiting = list({kind: True for kind in kinds})
    while waiting:
        kind = waiting.pop()
        if kind not in children:
            children[kind] = what_comes(scheme, kind)
            waiting.extend([own for own, _, _ in children[kind]])
    return children


def coming(scheme, kind):
    """The triples (kind, turn, vector) of what comes from a visit of a kind in the direction 0."""
    check_scheme(scheme)
    check_kind(scheme, kind)
    return what_comes(scheme, kind)


def what_comes(scheme, kind):
    """As `coming`, of a kind that is known to be one."""
    before, after, turn = kind
    if after == "":
        letter, last_turn = scheme[before].row[-1]
        return (((letter, "", 0), last_turn, (0, 0)),)
    rule = scheme[after]
    ahead = None if before == "" else scheme[before].drawn(-turn % len(scheme.grid.units))[-1]
    return tuple(_along(scheme.grid, ahead, rule.row, rule.starts))


def _along(grid, ahead, steps, points):
    """The visits at which these steps begin, behind a step that is ahead of them all."""
    befores = [ahead] + list(steps[:-1])
    return [(kind_between(grid, before, step), step[1], point) for before, step, point in zip(befores, steps, points)]


def visits_along(scheme, steps):
    """The list of the visits of a line with these steps."""
    grid = scheme.grid
    points = trail(grid, [direction for letter, direction in steps])
    if scheme.is_closed:
        return _along(grid, steps[-1], steps, points)
    last = (kind_between(grid, steps[-1], None), steps[-1][1], points[-1])
    return _along(grid, None, steps, points) + [last]


def sights_along(scheme, pen, line):
    """The list of the pairs of a kind and a direction that visits of a line have, and the list of which ones they have.

    The line has been drawn by a pen.
    """
    steps = pen.steps
    # Behind all steps stands what is beside the first and the last visit of an open line.
    none = len(steps)
    befores = line[-1:] + line[:-1] if scheme.is_closed else [none] + line
    afters = line if scheme.is_closed else line + [none]
    pairs = [before * (none + 1) + after for before, after in zip(befores, afters)]
    beside = steps + [None]
    known = {}
    sights = []
    for pair in sorted(set(pairs)):
        before, after = divmod(pair, none + 1)
        known[pair] = len(sights)
        own = beside[before] if after == none else beside[after]
        sights.append((kind_between(scheme.grid, beside[before], beside[after]), own[1]))
    return (sights, [known[pair] for pair in pairs])


def first_visits(scheme):
    """The list of the visits of the line of order 0."""
    return visits_along(scheme, scheme.axiom)


def many_visits(scheme, order):
    """How many visits the line of an order has."""
    return length_of(scheme, order) + (0 if scheme.is_closed else 1)


def visits(scheme, order):
    """The tuple of the visits of a line as triples (kind, direction, point)."""
    check_scheme(scheme)
    check_order(order)
    if many_visits(scheme, order) > MAX_STEPS:
        raise TooMany(MAX_STEPS)
    return tuple(visits_along(scheme, steps_of(scheme, order)))


def visit_at(scheme, order, address):
    """The triple of the visit with an address."""
    if not is_address_of(scheme, order, address):
        raise InvalidOperation("an address of a visit of this order is asked for")
    return visit_by(scheme, address)


def visit_by(scheme, address):
    """As `visit_at`, of an address that is known to be one."""
    grid = scheme.grid
    known = {}
    kind, direction, point = first_visits(scheme)[address[0]]
    digits = [point]
    for number in address[1:]:
        if kind not in known:
            known[kind] = what_comes(scheme, kind)
        kind, turn, vector = known[kind][number]
        digits.append(turned_by(grid, vector, direction))
        direction = (direction + turn) % len(grid.units)
    return (kind, direction, in_powers(grid, scheme.growth, digits))


def is_address_of(scheme, order, value):
    """Whether the value is the address of a visit of an order."""
    check_scheme(scheme)
    check_address_order(order)
    return isinstance(value, tuple) and len(value) == order + 1 and leads_to_visit(scheme, value)


def count_kinds(scheme, order):
    """The dict from the kinds of visits of a line to how many there are."""
    check_scheme(scheme)
    check_order(order)
    comes = {kind: [own for own, turn, vector in what_comes(scheme, kind)] for kind in kinds_of(scheme)}
    # The visits from number 1 on are told by the letter of the step out alone.
    inner = {kind[1]: comes[kind][1:] for kind in comes}
    levels = letters_by_orders(scheme, scheme.axiom, order)
    counts = {}
    for kind, _, _ in first_visits(scheme):
        _add_along(counts, comes, kind, [0] * order + [1])
    for letter in scheme.used:
        # As many visits of each inner kind come at each order as there are steps of the order before.
        many = [level[letter] for level in levels[:order][::-1]]
        for kind in inner[letter]:
            _add_along(counts, comes, kind, many)
    return {kind: counts[kind] for kind in sorted(list(counts)) if counts[kind] > 0}


def _add_along(counts, comes, kind, many):
    """Add these numbers to the counts of a kind and of the kinds that come from it with the number 0, in turn."""
    own = kind
    for more in many:
        counts[own] = counts.get(own, 0) + more
        own = comes[own][0]


def ends_of(grid, kind, direction):
    """The ends of the step in and of the step out of a visit, None if one of these is missing."""
    if kind[0] == "" or kind[1] == "":
        return None
    return ((direction - kind[2] + grid.half) % len(grid.units), direction)
