"""Kinds and stands that are passed: whether they have the right forms, and all that they must have."""

from grownlines.decide.codes import Codes, kind_code
from grownlines.decide.nearness import Nearness
from grownlines.decide.searches import is_complete
from grownlines.visits.kinds import first_visits, is_kind, kinds_from


def _ascends(values):
    return all([one < other for one, other in zip(values, values[1:])])


def _are_kinds(scheme, value):
    """Whether the value is an ascending tuple of kinds."""
    return isinstance(value, tuple) and all([is_kind(scheme, kind) for kind in value]) and _ascends(value)


def _is_flag(value):
    """Whether the value is True or False, which are integers for Python, equal to 1 and 0, but not here."""
    return value is True or value is False


def _tail_of(nearness, turn, vector):
    """The number of a turn and a vector that is not far, of any values; None if they are none.

    These numbers ascend as the pairs do.
    """
    if not isinstance(turn, int) or not isinstance(vector, tuple) or len(vector) != 2:
        return None
    x, y = vector
    if not isinstance(x, int) or not isinstance(y, int) or turn < 0 or turn >= len(nearness.grid.units):
        return None
    if turn is True or turn is False or x is True or x is False or y is True or y is False:
        return None
    if vector not in nearness.spots:
        return None
    return turn * len(nearness.points) + nearness.spots[vector]


def _runs_of(scheme, nearness, value):
    """An ascending tuple of stands that are not far, by their kinds: triples of two kinds and of the list of the rest.

    It is None for every other value.
    """
    if not isinstance(value, tuple):
        return None
    runs = []
    kind = other = tails = None
    for stand in value:
        if not isinstance(stand, tuple) or len(stand) != 4:
            return None
        first, second, turn, vector = stand
        if len(runs) == 0 or first != kind or second != other:
            if not is_kind(scheme, first) or not is_kind(scheme, second):
                return None
            kind = first
            other = second
            tails = []
            runs.append((kind, other, tails))
        elif _is_flag(first[2]) or _is_flag(second[2]):
            return None
        tail = _tail_of(nearness, turn, vector)
        if tail is None or len(tails) > 0 and tail <= tails[-1]:
            return None
        tails.append(tail)
    return runs if _ascends([(kind, other) for kind, other, tails in runs]) else None


class Told:
    """Kinds and stands that were told, as numbers."""

    def __init__(self, scheme, nearness, kinds, runs):
        first = first_visits(scheme)
        met = [kind for kind, turn, point in first] + [kind for run in runs for kind in run[:2]]
        codes = Codes(scheme, nearness, kinds_from(scheme, list(kinds) + met))
        pairs = [codes.ranks[kind] * len(codes.kinds) + codes.ranks[other] for kind, other, tails in runs]
        known = [kind_code(codes.ranks[kind]) for kind in kinds]
        for pair, (kind, other, tails) in zip(pairs, runs):
            known.extend([pair * codes.size + tail for tail in tails])
        self._codes = codes
        self._firsts = codes.first_codes(first)
        self._known = known
        self._pairs = pairs

    def shows(self, fault):
        """Whether one of the stands shows a fault."""
        known = {code: True for code in self._known}
        return any([code in known and self._codes.shows(code, fault)
                    for code in self._codes.close_codes(self._pairs, fault)])

    def is_complete(self):
        """Whether they have all kinds and stands of order 0, and all that come from them."""
        return is_complete(self._codes, self._firsts, self._known)


def told_of(scheme, kinds, stands):
    """What is told by an ascending tuple of kinds and one of stands that are not far, None if they are none."""
    if not _are_kinds(scheme, kinds):
        return None
    nearness = Nearness(scheme)
    runs = _runs_of(scheme, nearness, stands)
    return None if runs is None else Told(scheme, nearness, kinds, runs)
