"""Kinds and stands that are passed: whether they have the right forms, and all that they must have."""

from grownlines.decide.codes import Codes, kind_code
from grownlines.decide.nearness import Nearness
from grownlines.decide.searches import is_complete
from grownlines.visits.kinds import first_visits, is_kind, kinds_from


def _ascends(values):
    return all([one < other for one, other in zip(values, values[1:])])


def _are_kinds(scheme, value):
    """Whether the value is an ascending tuple of kinds."""
    return isinstance(value, tuple) and all([is_kind(scheme, kind) for kind in value]) and _ascends(value)


def _tails_of(nearness, pairs):
    """The numbers of pairs of a turn and a vector that is not far, of any values; None if they are none.

    Such a number is the less, the less the pair is, and they must ascend.
    """
    many = len(nearness.grid.units)
    span = len(nearness.points)
    spots = nearness.spots
    last = -1
    tails = []
    for turn, vector in pairs:
        if not isinstance(turn, int) or not isinstance(vector, tuple) or len(vector) != 2:
            return None
        x, y = vector
        if not isinstance(x, int) or not isinstance(y, int) or turn < 0 or turn >= many or vector not in spots:
            return None
        # True and False are integers for Python, but not here.
        if turn is True or turn is False or x is True or x is False or y is True or y is False:
            return None
        tail = turn * span + spots[vector]
        if tail <= last:
            return None
        last = tail
        tails.append(tail)
    return tails


def _parted(scheme, value):
    """The members of a tuple, by their kinds: triples of two kinds and of the list of the rest of each.

    It is None if one of them does not begin with two kinds, or has not the number of parts of a stand.
    """
    runs = []
    kind = other = rest = None
    for stand in value:
        if not isinstance(stand, tuple) or len(stand) != 4:
            return None
        first, second, turn, vector = stand
        if len(runs) == 0 or first != kind or second != other:
            if not is_kind(scheme, first) or not is_kind(scheme, second):
                return None
            kind = first
            other = second
            rest = []
            runs.append((kind, other, rest))
        # What is equal to a kind may have True or False as its turn.
        elif first[2] is True or first[2] is False or second[2] is True or second[2] is False:
            return None
        rest.append((turn, vector))
    return runs


def _runs_of(scheme, nearness, value):
    """An ascending tuple of stands that are not far, by their kinds: triples of two kinds and of the list of the rest.

    It is None for every other value.
    """
    parted = _parted(scheme, value) if isinstance(value, tuple) else None
    if parted is None:
        return None
    runs = [(kind, other, _tails_of(nearness, rest)) for kind, other, rest in parted]
    if any([tails is None for _, _, tails in runs]) or not _ascends([(kind, other) for kind, other, _ in runs]):
        return None
    return runs


class Told:
    """Kinds and stands that were told, as numbers."""

    def __init__(self, scheme, nearness, kinds, runs):
        first = first_visits(scheme)
        met = [kind for kind, turn, point in first] + [kind for run in runs for kind in run[:2]]
        codes = Codes(scheme, nearness, kinds_from(scheme, list(kinds) + met))
        pairs = [codes.ranks[kind] * len(codes.kinds) + codes.ranks[other] for kind, other, tails in runs]
        known = [kind_code(codes.ranks[kind]) for kind in kinds]
        for pair, (kind, other, tails) in zip(pairs, runs):
            known.extend([pair * codes.size + tail for tail in tails])
        self._codes = codes
        self._firsts = codes.first_codes(first)
        self._known = known
        self._pairs = pairs

    def shows(self, fault):
        """Whether one of the stands shows a fault."""
        known = {code: True for code in self._known}
        return any([code in known and self._codes.shows(code, fault)
                    for code in self._codes.close_codes(self._pairs, fault)])

    def is_complete(self):
        """Whether they have all kinds and stands of order 0, and all that come from them."""
        return is_complete(self._codes, self._firsts, self._known)


def told_of(scheme, kinds, stands):
    """What is told by an ascending tuple of kinds and one of stands that are not far, None if they are none."""
    if not _are_kinds(scheme, kinds):
        return None
    nearness = Nearness(scheme)
    runs = _runs_of(scheme, nearness, stands)
    return None if runs is None else Told(scheme, nearness, kinds, runs)
