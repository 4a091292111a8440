"""Kinds and stands that are passed: whether they have the right forms, and all that they must have."""

from grownlines.decide.codes import Codes, kind_code
from grownlines.decide.nearness import Nearness
from grownlines.decide.searches import is_complete
from grownlines.visits.kinds import first_visits, is_kind, kinds_from


def ascends(values):
    """Whether each of the values is less than the next one."""
    return all([one < other for one, other in zip(values, values[1:])])


def are_kinds(scheme, value):
    """Whether the value is an ascending tuple of kinds."""
    return isinstance(value, tuple) and all([is_kind(scheme, kind) for kind in value]) and ascends(value)


def _is_flagged(kind, other):
    """Whether True or False stand for the turn of one of two kinds: they are equal to 1 and 0."""
    return isinstance(kind[2], bool) or isinstance(other[2], bool)


def _tail(nearness, turn, vector):
    """The number of a turn and a vector that is not far, -1 for all else: the less number has the lesser pair."""
    if not isinstance(vector, tuple) or len(vector) != 2 or not isinstance(turn, int) or isinstance(turn, bool):
        return -1
    x, y = vector
    if not isinstance(x, int) or not isinstance(y, int) or isinstance(x, bool) or isinstance(y, bool):
        return -1
    if turn < 0 or turn >= len(nearness.grid.units) or not nearness.is_near(vector):
        return -1
    return turn * len(nearness.points) + nearness.places[nearness.wide(vector)]


def runs_of(scheme, nearness, value):
    """An ascending tuple of stands that are not far, by their kinds: triples of two kinds and of the list of the rest.

    It is None for every other value.
    """
    if not isinstance(value, tuple):
        return None
    runs = []
    kind = other = tails = None
    for stand in value:
        if not isinstance(stand, tuple) or len(stand) != 4:
            return None
        if len(runs) == 0 or stand[0] != kind or stand[1] != other:
            kind, other = stand[:2]
            if not is_kind(scheme, kind) or not is_kind(scheme, other):
                return None
            tails = []
            runs.append((kind, other, tails))
        elif _is_flagged(stand[0], stand[1]):
            return None
        tails.append(_tail(nearness, stand[2], stand[3]))
    heads = [(kind, other) for kind, other, tails in runs]
    return runs if ascends(heads) and all([tails[0] >= 0 and ascends(tails) for _, _, tails in runs]) else None


def has_all(scheme, nearness, kinds, runs):
    """Whether kinds and stands have those of order 0, and all that come from them."""
    first = first_visits(scheme)
    met = [kind for kind, turn, point in first] + [kind for run in runs for kind in run[:2]]
    codes = Codes(scheme, nearness, kinds_from(scheme, list(kinds) + met))
    ranks = codes.ranks
    known = [kind_code(ranks[kind]) for kind in kinds]
    for kind, other, tails in runs:
        begin = (ranks[kind] * len(codes.kinds) + ranks[other]) * codes.size
        known.extend([begin + tail for tail in tails])
    return is_complete(codes, codes.first_codes(first), known)
