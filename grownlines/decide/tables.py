"""The table of a scheme: all stands that are not far of its lines of all orders."""

from grownlines.decide.codes import code_of
from grownlines.decide.found import Found
from grownlines.decide.judged import told_of
from grownlines.decide.nearness import Nearness
from grownlines.decide.stands import seen_from
from grownlines.errors import InvalidOperation, InvalidStand, TooMany
from grownlines.lines.grown import MAX_STEPS, check_order, check_scheme
from grownlines.lines.pens import Pen
from grownlines.visits.kinds import many_visits, sights_along
from grownlines.visits.meetings import FAULTS, check_fault

MAX_TABLE = 20000


def is_closed_under(scheme, kinds, stands):
    """Whether two tuples, of kinds and of stands, have all that must be there."""
    check_scheme(scheme)
    told = told_of(scheme, kinds, stands)
    if told is None:
        raise InvalidOperation("ascending tuples of kinds and of stands that are not far are asked for")
    return told.is_complete()


def _first_order_text(order):
    return "none" if order is None else str(order)


class Table:
    """The least set of stands that has those of all lines, but far ones."""

    def __init__(self, scheme):
        check_scheme(scheme)
        found = Found(scheme, MAX_TABLE)
        self._found = found
        self._orders = {code: order for order, level in enumerate(found.levels) for code in level}
        self.scheme = scheme
        self.kinds = found.codes.kinds
        self.stands = found.all_stands()
        wrong = {fault: found.wrong(fault) for fault in FAULTS}
        self._wrong = {fault: tuple([found.codes.seen(code) for code in wrong[fault]]) for fault in FAULTS}
        self._first_orders = {fault: min([self._orders[code] for code in wrong[fault]], default=None)
                              for fault in FAULTS}

    def _code(self, stand):
        """The number of a stand of the table."""
        code = code_of(self._found.codes, stand)
        if code not in self._orders:
            raise InvalidStand("a stand of the table is asked for")
        return code

    def order_of(self, stand):
        """The least order at which two visits of a line have this stand."""
        return self._orders[self._code(stand)]

    def pair_of(self, stand):
        """The addresses of two visits of this order with this stand."""
        return self._found.pair_of(self.scheme, self._code(stand))

    def wrong(self, fault):
        """The ascending tuple of the stands that show a fault."""
        check_fault(fault)
        return self._wrong[fault]

    def order_with(self, fault):
        """The first order for a fault, None if the scheme is clear of it."""
        check_fault(fault)
        return self._first_orders[fault]

    def __contains__(self, value):
        return code_of(self._found.codes, value) in self._orders

    def __len__(self):
        return len(self.stands)

    def __iter__(self):
        return iter(self.stands)

    def __eq__(self, other):
        return isinstance(other, Table) and self.scheme == other.scheme

    def __str__(self):
        orders = [_first_order_text(self._first_orders[fault]) for fault in FAULTS]
        return f"table of {len(self.stands)} stands, first orders {', '.join(orders)}"


def _near_visits(steps, left, place):
    """The dict from the numbers of the visits that are left and near a place to what is told of the step to them."""
    # Either all near places are looked at, or all where visits are left.
    if len(steps) < len(left):
        return {later: steps[more] for more in steps if place + more in left for later in left[place + more]}
    return {later: steps[other - place] for other in left if other - place in steps for later in left[other]}


def pairs_to(scheme, order):
    """The triples (number, number, stand) of all pairs of visits of an order, far stands left out."""
    check_scheme(scheme)
    check_order(order)
    if many_visits(scheme, order) > MAX_STEPS:
        raise TooMany(MAX_STEPS)
    nearness = Nearness(scheme)
    pen = Pen(scheme)
    line = pen.line_of(order)
    places = pen.visits_of(pen.places_of(line))
    sights, sight_of = sights_along(scheme, pen, line)
    # What one visit sees of another one is told by the index of the vector and by what the other one is.
    steps = {pen.place_of(point): at * len(sights) for at, point in enumerate(nearness.points)}
    seen = [{} for _ in sights]
    left = {}
    for number, place in enumerate(places):
        left.setdefault(place, []).append(number)
    for number, place in enumerate(places):
        # The first number that is left here is this one.
        left[place] = left[place][1:]
        if len(left[place]) == 0:
            del left[place]
        one = sight_of[number]
        near = _near_visits(steps, left, place)
        stands = seen[one]
        for later in sorted(list(near)):
            told = near[later] + sight_of[later]
            if told not in stands:
                at, other = divmod(told, len(sights))
                stands[told] = _stand_between(scheme.grid, sights[one], sights[other], nearness.points[at])
            yield (number, later, stands[told])


def _stand_between(grid, sight, other, vector):
    """The stand of two visits, each told by its kind and its direction, with the vector between them."""
    return seen_from(grid, (*sight, (0, 0)), (*other, vector))
