"""The table of a scheme: all stands that are not far of its lines of all orders."""

from grownlines.base.points import minus, norm_in
from grownlines.decide.found import Found
from grownlines.decide.judged import are_kinds, has_all, runs_of
from grownlines.decide.nearness import Nearness
from grownlines.decide.stands import far_norm, is_stand, reach, seen_from, shows
from grownlines.errors import InvalidOperation, InvalidStand
from grownlines.lines.grown import check_scheme
from grownlines.visits.kinds import visits
from grownlines.visits.meetings import FAULTS, check_fault

MAX_TABLE = 20000


def is_closed_under(scheme, kinds, stands):
    """Whether two tuples, of kinds and of stands, have all that must be there."""
    check_scheme(scheme)
    if not are_kinds(scheme, kinds):
        raise InvalidOperation("an ascending tuple of kinds is asked for")
    nearness = Nearness(scheme)
    runs = runs_of(scheme, nearness, stands)
    if runs is None:
        raise InvalidOperation("an ascending tuple of stands that are not far is asked for")
    return has_all(scheme, nearness, kinds, runs)


def _first_order_text(order):
    return "none" if order is None else str(order)


class Table:
    """The least set of stands that has those of all lines, but far ones."""

    def __init__(self, scheme):
        check_scheme(scheme)
        found = Found(scheme, MAX_TABLE)
        self._found = found
        self.scheme = scheme
        self.kinds = found.codes.kinds
        self.stands = found.all_stands()
        self._wrong = {fault: tuple(found.codes.stands_of(found.wrong(fault), found.pairs)) for fault in FAULTS}
        self._first_orders = {fault: found.order_with(fault) for fault in FAULTS}

    def _code(self, stand):
        """The number of a stand of the table."""
        if stand not in self:
            raise InvalidStand("a stand of the table is asked for")
        return self._found.codes.code_of(stand)

    def order_of(self, stand):
        """The least order at which two visits of a line have this stand."""
        return self._found.order_of(self._code(stand))

    def pair_of(self, stand):
        """The addresses of two visits of this order with this stand."""
        return self._found.pair_of(self.scheme, self._code(stand))

    def wrong(self, fault):
        """The ascending tuple of the stands that show a fault."""
        check_fault(fault)
        return self._wrong[fault]

    def order_with(self, fault):
        """The first order for a fault, None if the scheme is clear of it."""
        check_fault(fault)
        return self._first_orders[fault]

    def __contains__(self, value):
        return is_stand(self.scheme, value) and self._found.codes.code_of(value) in self._found.origins

    def __len__(self):
        return len(self.stands)

    def __iter__(self):
        return iter(self.stands)

    def __eq__(self, other):
        return isinstance(other, Table) and self.scheme == other.scheme

    def __str__(self):
        orders = [_first_order_text(self._first_orders[fault]) for fault in FAULTS]
        return f"table of {len(self.stands)} stands, first orders {', '.join(orders)}"


def _cell_of(width, point):
    return (point[0] // width, point[1] // width)


def _around(cell):
    return [(cell[0] + right, cell[1] + up) for right in (-1, 0, 1) for up in (-1, 0, 1)]


def pairs_to(scheme, order):
    """The triples (number, number, stand) of all pairs of visits of an order, far stands left out."""
    along = visits(scheme, order)
    bound = far_norm(scheme)
    # The parts of a vector that is not far are less than 6 / 5 of the reach, in both grids.
    width = reach(scheme) + reach(scheme) // 5 + 1
    cells = {}
    for number, visit in enumerate(along):
        cells.setdefault(_cell_of(width, visit[2]), []).append(number)
    for number, visit in enumerate(along):
        around = [own for cell in _around(_cell_of(width, visit[2])) for own in cells.get(cell, []) if own > number]
        near = [own for own in around if norm_in(scheme.grid, minus(along[own][2], visit[2])) <= bound]
        for later in sorted(near):
            yield (number, later, seen_from(scheme.grid, visit, along[later]))
