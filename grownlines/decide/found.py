"""All that a table has, as numbers, and those of its stands that show a fault."""

from grownlines.decide.codes import Codes
from grownlines.decide.nearness import Nearness
from grownlines.decide.searches import chain_of, first_numbers, numbers_along, search
from grownlines.decide.stands import shows
from grownlines.visits.kinds import first_visits, kinds_of


class Found:
    """The numbers of all kinds and stands of the table of a scheme; `firsts` are those of order 0, as often as there.

    `origins` tells for each number from which one it comes first.
    """

    def __init__(self, scheme, most):
        codes = Codes(scheme, Nearness(scheme), kinds_of(scheme))
        self.codes = codes
        self.firsts = codes.first_codes(first_visits(scheme))
        self.origins, self.pairs = search(codes, self.firsts, len(codes.kinds), most)

    def stands_of(self, codes):
        """The list of the stands with these numbers."""
        return self.codes.stands_of(codes, self.pairs)

    def all_stands(self):
        """The ascending tuple of all stands."""
        return tuple(self.stands_of(sorted([code for code in self.origins if code >= 0])))

    def wrong(self, fault):
        """The ascending list of the numbers of the stands that show a fault."""
        codes = self.codes
        close = [code for code in codes.close_codes(self.pairs) if code in self.origins]
        shown = zip(close, codes.stands_of(close, self.pairs))
        return [code for code, stand in shown if shows(codes.nearness.grid, stand, fault)]

    def order_with(self, fault):
        """The least order of a stand that shows a fault, None if there is none."""
        return min([self.order_of(code) for code in self.wrong(fault)], default=None)

    def order_of(self, code):
        """The least order at which the stand with a number is there."""
        chain = chain_of(self.origins, code)
        return len(chain) - 1

    def pair_of(self, scheme, code):
        """The addresses of two visits of this order with this stand."""
        chain = [self.codes.seen(own) for own in chain_of(self.origins, code)]
        pairs = [first_numbers(scheme, chain[0])] + numbers_along(scheme, chain)
        return (tuple([one for one, other in pairs]), tuple([other for one, other in pairs]))

    def indexes(self):
        """The dict from all numbers to their places in the order of `origins`."""
        return {code: place for place, code in enumerate(self.origins)}

    def rows(self):
        """For each place the list of the places of what comes from it."""
        places = self.indexes()
        return [[places[own] for own in row] for row in self.codes.all_coming(self.origins)]
