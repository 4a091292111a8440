"""All that a table has, as numbers, and those of its stands that show a fault."""

from grownlines.decide.codes import Codes
from grownlines.decide.nearness import Nearness
from grownlines.decide.searches import all_coming, chain_of, first_numbers, numbers_along, search
from grownlines.errors import TooMany
from grownlines.visits.kinds import children_from, first_visits


def _goals(codes, possible, most, fault):
    """The dict of the numbers of all stands that may show a fault, if a search may end with the first that does."""
    # Only if there cannot be too many stands, the last ones need not be counted.
    if fault is None or len(possible) * codes.size > most:
        return {}
    return {code: True for code in codes.close_codes(possible, fault)}


class Found:
    """The numbers of all kinds and stands of the table of a scheme; `firsts` are those of order 0, as often as there.

    `origins` tells for each number from which one it comes first. If a fault is told, what has greater orders than
    the first stand that shows it may be missing.
    """

    def __init__(self, scheme, most, fault=None):
        visits = first_visits(scheme)
        codes = Codes(scheme, Nearness(scheme), children_from(scheme, [kind for kind, _, _ in visits]))
        firsts = codes.first_codes(visits)
        possible = [] if fault is None else codes.possible_pairs()
        goals = _goals(codes, possible, most, fault)
        found = search(codes, firsts, most + len(codes.kinds), goals, fault)
        if found is None:
            raise TooMany(most)
        self.codes = codes
        self.firsts = firsts
        self.origins, self.levels, pairs = found
        self._pairs = pairs if len(goals) == 0 else possible

    def wrong(self, fault):
        """The ascending list of the numbers of the stands that show a fault."""
        return [code for code in self.codes.close_codes(self._pairs, fault)
                if code in self.origins and self.codes.shows(code, fault)]

    def all_stands(self):
        """The ascending tuple of all stands."""
        # The numbers of kinds are the least ones, and all kinds are found.
        return tuple(self.codes.stands_of(sorted(list(self.origins))[len(self.codes.kinds):]))

    def order_with(self, fault):
        """The least order of a stand that shows a fault, None if there is none."""
        return self.first_of(self.wrong(fault))[0]

    def first_of(self, codes):
        """The pair of the least order of these numbers and of the least number of this order, twice None if none."""
        return min([(self.order_of(code), code) for code in codes], default=(None, None))

    def order_of(self, code):
        """The least order at which the stand with a number is there."""
        chain = chain_of(self.origins, code)
        return len(chain) - 1

    def pair_of(self, scheme, code):
        """The addresses of two visits of this order with this stand."""
        chain = chain_of(self.origins, code)
        pairs = [first_numbers(scheme, self.codes.seen(chain[0]))] + numbers_along(self.codes, scheme, chain)
        return (tuple([one for one, other in pairs]), tuple([other for one, other in pairs]))

    def indexes(self):
        """The dict from all numbers to their places in the order of `origins`."""
        return {code: place for place, code in enumerate(self.origins)}

    def rows(self):
        """For each place the list of the places of what comes from it."""
        places = self.indexes()
        return [[places[own] for own in row] for row in all_coming(self.codes, self.origins)]
