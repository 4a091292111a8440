"""Kinds and stands that are passed: whether they have the right forms, and all that they must have."""

from grownlines.base.rules import is_turn
from grownlines.decide.closed import is_complete
from grownlines.decide.codes import Codes, kind_code
from grownlines.decide.nearness import Nearness
from grownlines.decide.stands import is_stand
from grownlines.visits.kinds import children_from, first_visits, is_kind


def _ascends(values):
    return all([one < other for one, other in zip(values, values[1:])])


def _are_kinds(scheme, value):
    """Whether the value is an ascending tuple of kinds."""
    return isinstance(value, tuple) and all([is_kind(scheme, kind) for kind in value]) and _ascends(value)


def _are_next(scheme, runs, kind, other):
    """Whether these are kinds that follow those of the last run, if there is one."""
    if not is_kind(scheme, kind) or not is_kind(scheme, other):
        return False
    return len(runs) == 0 or runs[-1][:2] < (kind, other)


def _runs_of(scheme, nearness, value):
    """An ascending tuple of stands that are not far, by their kinds and turns; None for every other tuple.

    That is the list of the quadruples of two kinds, a turn, and the list of the places of all vectors with these. The
    first member of the tuple, if there is one, has the form of a stand.
    """
    spots = nearness.spots
    runs = []
    kind = other = own = places = last = None
    for stand in value:
        if not isinstance(stand, tuple) or len(stand) != 4:
            return None
        first, second, turn, vector = stand
        is_new = first != kind or second != other
        if is_new:
            if not _are_next(scheme, runs, first, second):
                return None
            kind, other = first, second
        # What is equal to a kind or a turn may have True or False in it.
        elif first[2] is True or first[2] is False or second[2] is True or second[2] is False:
            return None
        if is_new or turn != own:
            if not is_turn(scheme.grid, turn) or not is_new and turn < own:
                return None
            own, places, last = turn, [], -1
            runs.append((kind, other, own, places))
        elif turn is True or turn is False:
            return None
        if not isinstance(vector, tuple) or len(vector) != 2:
            return None
        x, y = vector
        if not isinstance(x, int) or not isinstance(y, int) or x is True or x is False or y is True or y is False:
            return None
        place = spots.get(vector, -1)
        if place <= last:
            return None
        last = place
        places.append(place)
    return runs


class Told:
    """Kinds and stands that were told, as numbers."""

    def __init__(self, scheme, nearness, kinds, runs):
        first = first_visits(scheme)
        met = [kind for kind, turn, point in first] + [kind for run in runs for kind in run[:2]]
        codes = Codes(scheme, nearness, children_from(scheme, list(kinds) + met))
        ranks = codes.ranks
        turns = len(scheme.grid.units)
        self._codes = codes
        self._firsts = codes.first_codes(first)
        self._kinds = [kind_code(ranks[kind]) for kind in kinds]
        self._runs = {(ranks[kind] * len(ranks) + ranks[other]) * turns + turn: places
                      for kind, other, turn, places in runs}

    def shows(self, fault):
        """Whether one of the stands shows a fault."""
        codes = self._codes
        pairs = list({head * codes.span // codes.size: True for head in self._runs})
        return any([code % codes.span in self._runs.get(code // codes.span, ()) and codes.shows(code, fault)
                    for code in codes.close_codes(pairs, fault)])

    def is_complete(self):
        """Whether they have all kinds and stands of order 0, and all that come from them."""
        return is_complete(self._codes, self._firsts, self._kinds, self._runs)


def told_of(scheme, kinds, stands):
    """What is told by an ascending tuple of kinds and one of stands that are not far, None if they are none."""
    if not _are_kinds(scheme, kinds) or not isinstance(stands, tuple):
        return None
    if len(stands) > 0 and not is_stand(scheme, stands[0]):
        return None
    nearness = Nearness(scheme)
    runs = _runs_of(scheme, nearness, stands)
    return None if runs is None else Told(scheme, nearness, kinds, runs)
