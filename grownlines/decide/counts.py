"""How many meetings lines of great orders have, and the layers of stands, which repeat from some order on."""

from grownlines.base.words import is_count
from grownlines.decide.cycles import members_of, set_of, sets_until
from grownlines.decide.found import Found
from grownlines.decide.tables import MAX_TABLE
from grownlines.errors import InvalidNumber, TooMany
from grownlines.lines.grown import check_order, check_scheme
from grownlines.visits.meetings import check_fault

MAX_CYCLE = 400


def _leading(rows, goals):
    """The ascending list of the places from which these ones come by any number of orders, themselves included."""
    sources = [[] for _ in rows]
    for place, row in enumerate(rows):
        for own in row:
            sources[own].append(place)
    leads = {place: True for place in goals}
    waiting = list(leads)
    while waiting:
        for place in sources[waiting.pop()]:
            if place not in leads:
                leads[place] = True
                waiting.append(place)
    return sorted(list(leads))


def count_meetings(scheme, order, fault):
    """How many pairs of different visits of a line show a fault, for edges how many pairs of steps have one edge."""
    check_scheme(scheme)
    check_order(order)
    check_fault(fault)
    found = Found(scheme, MAX_TABLE)
    wrong = found.wrong(fault)
    if len(wrong) == 0:
        return 0
    places = found.indexes()
    rows = found.rows()
    # What leads to no such pair is left out: the others are numbered anew.
    leads = {place: at for at, place in enumerate(_leading(rows, [places[code] for code in wrong]))}
    rows = [[leads[own] for own in rows[place] if own in leads] for place in leads]
    # How many such pairs come from each by some orders.
    shown = {places[code]: True for code in wrong}
    many = [1 if place in shown else 0 for place in leads]
    for _ in range(order):
        many = [sum([many[own] for own in row]) for row in rows]
    return sum([many[leads[places[code]]] for code in found.firsts if places[code] in leads])


def _check_great_order(order):
    if not is_count(order):
        raise InvalidNumber(order)


class Layers:
    """The layers of a scheme, with the kinds of visits, from order 0 on until they repeat."""

    def __init__(self, scheme):
        found = Found(scheme, MAX_TABLE)
        places = found.indexes()
        sets = sets_until(found.rows(), [places[code] for code in found.firsts], MAX_CYCLE)
        if sets is None:
            raise TooMany(MAX_CYCLE)
        self.found = found
        self.places = places
        self.sets, self.turn = sets
        self.period = len(self.sets) - self.turn

    def at(self, order):
        """The set of the places of what is there at an order."""
        if order < self.turn:
            return self.sets[order]
        return self.sets[self.turn + (order - self.turn) % self.period]

    def faulty(self, fault):
        """The set of the places of the stands that show a fault."""
        return set_of([self.places[code] for code in self.found.wrong(fault)])


def layer(scheme, order):
    """The ascending tuple of the stands that are not far of the pairs of visits of an order."""
    check_scheme(scheme)
    _check_great_order(order)
    layers = Layers(scheme)
    codes = list(layers.places)
    there = [codes[place] for place in members_of(layers.at(order))]
    return tuple(layers.found.codes.stands_of(sorted([code for code in there if code >= 0])))


def cycle_of(scheme):
    """The turn and the period: from the turn on all layers and kinds of visits come again after the period."""
    check_scheme(scheme)
    layers = Layers(scheme)
    return (layers.turn, layers.period)


def is_faulty(scheme, order, fault):
    """Whether the line of an order has a fault."""
    check_scheme(scheme)
    _check_great_order(order)
    check_fault(fault)
    layers = Layers(scheme)
    return layers.at(order) & layers.faulty(fault) != 0


def orders_of(scheme, fault):
    """The orders of lines with a fault below the turn, and of those from there on for one period."""
    check_scheme(scheme)
    check_fault(fault)
    layers = Layers(scheme)
    faulty = layers.faulty(fault)
    orders = [order for order, mask in enumerate(layers.sets) if mask & faulty != 0]
    return (tuple([order for order in orders if order < layers.turn]),
            tuple([order for order in orders if order >= layers.turn]))
