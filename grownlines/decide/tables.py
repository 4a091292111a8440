"""The table of a scheme: all stands that are not far of its lines of all orders."""

from grownlines.base.points import turned_by
from grownlines.decide.found import Found
from grownlines.decide.judged import told_of
from grownlines.decide.nearness import Nearness
from grownlines.decide.stands import is_stand
from grownlines.errors import InvalidOperation, InvalidStand, TooMany
from grownlines.lines.grown import MAX_STEPS, check_order, check_scheme
from grownlines.lines.pens import Pen
from grownlines.visits.kinds import many_visits, sights_along
from grownlines.visits.meetings import FAULTS, check_fault

MAX_TABLE = 20000


def is_closed_under(scheme, kinds, stands):
    """Whether two tuples, of kinds and of stands, have all that must be there."""
    check_scheme(scheme)
    told = told_of(scheme, kinds, stands)
    if told is None:
        raise InvalidOperation("ascending tuples of kinds and of stands that are not far are asked for")
    return told.is_complete()


def _first_order_text(order):
    return "none" if order is None else str(order)


class Table:
    """The least set of stands that has those of all lines, but far ones."""

    def __init__(self, scheme):
        check_scheme(scheme)
        found = Found(scheme, MAX_TABLE)
        self._found = found
        self.scheme = scheme
        self.kinds = found.codes.kinds
        self.stands = found.all_stands()
        wrong = {fault: found.wrong(fault) for fault in FAULTS}
        self._wrong = {fault: tuple([found.codes.seen(code) for code in wrong[fault]]) for fault in FAULTS}
        self._first_orders = {fault: found.first_of(wrong[fault])[0] for fault in FAULTS}

    def _code(self, stand):
        """The number of a stand of the table."""
        if stand not in self:
            raise InvalidStand("a stand of the table is asked for")
        return self._found.codes.code_of(stand)

    def order_of(self, stand):
        """The least order at which two visits of a line have this stand."""
        return self._found.order_of(self._code(stand))

    def pair_of(self, stand):
        """The addresses of two visits of this order with this stand."""
        return self._found.pair_of(self.scheme, self._code(stand))

    def wrong(self, fault):
        """The ascending tuple of the stands that show a fault."""
        check_fault(fault)
        return self._wrong[fault]

    def order_with(self, fault):
        """The first order for a fault, None if the scheme is clear of it."""
        check_fault(fault)
        return self._first_orders[fault]

    def __contains__(self, value):
        return is_stand(self.scheme, value) and self._found.codes.code_of(value) in self._found.origins

    def __len__(self):
        return len(self.stands)

    def __iter__(self):
        return iter(self.stands)

    def __eq__(self, other):
        return isinstance(other, Table) and self.scheme == other.scheme

    def __str__(self):
        orders = [_first_order_text(self._first_orders[fault]) for fault in FAULTS]
        return f"table of {len(self.stands)} stands, first orders {', '.join(orders)}"


def _turned_vectors(pen, nearness, direction):
    """The dict from near vectors, as the pen tells them, to the vectors turned by a direction backward."""
    grid = nearness.grid
    return {pen.place_of(point): turned_by(grid, point, -direction) for point in nearness.points}


def _near_visits(vectors, left, place):
    """The dict from the numbers of the visits that are left and near a place to the vectors to them."""
    # Either all near places are looked at, or all where visits are left.
    if len(vectors) < len(left):
        return {later: vectors[more] for more in vectors if place + more in left for later in left[place + more]}
    return {later: vectors[other - place] for other in left if other - place in vectors for later in left[other]}


def pairs_to(scheme, order):
    """The triples (number, number, stand) of all pairs of visits of an order, far stands left out."""
    check_scheme(scheme)
    check_order(order)
    if many_visits(scheme, order) > MAX_STEPS:
        raise TooMany(MAX_STEPS)
    nearness = Nearness(scheme)
    pen = Pen(scheme)
    line = pen.line_of(order)
    places = pen.visits_of(pen.places_of(line))
    kinds, directions = sights_along(scheme, pen, line)
    many = len(scheme.grid.units)
    vectors = {direction: _turned_vectors(pen, nearness, direction) for direction in sorted(set(directions))}
    left = {}
    for number, place in enumerate(places):
        left.setdefault(place, []).append(number)
    for number, place in enumerate(places):
        # The first number that is left here is this one.
        left[place] = left[place][1:]
        if len(left[place]) == 0:
            del left[place]
        direction = directions[number]
        kind = kinds[number]
        near = _near_visits(vectors[direction], left, place)
        for later in sorted(list(near)):
            yield (number, later, (kind, kinds[later], (directions[later] - direction) % many, near[later]))
