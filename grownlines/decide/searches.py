"""Searches through all kinds and stands that come from given ones, far stands left out.

A kind has three parts and a stand has four, so both are keys of one dict.
"""

from grownlines.base.points import norm_in, times, turned_by
from grownlines.decide.stands import coming_stands, far_norm, first_stands, stands_within
from grownlines.errors import TooMany
from grownlines.visits.kinds import first_visits, what_comes


def is_kind_seen(seen):
    """Whether one of the kinds and stands of a search is a kind."""
    return len(seen) == 3


def _near(scheme, bound, stands):
    """The pairs of the stands that are not far, and of their numbers."""
    return [(stands[numbers], numbers) for numbers in stands if norm_in(scheme.grid, stands[numbers][3]) <= bound]


def _own_kinds(triples):
    return [(kind, (number, number)) for number, (kind, direction, point) in enumerate(triples)]


def first_seen(scheme, bound):
    """The pairs of the kinds and of the stands of order 0, and of the numbers of two visits that have them."""
    return _own_kinds(first_visits(scheme)) + _near(scheme, bound, first_stands(scheme))


def _ways_of(scheme, kind, other, turn):
    """What comes from stands with these kinds and this turn, by the visits that come from the first one.

    That is the list of the pairs of the turn of such a visit, and of its pairs of numbers and of stands as they
    are if the two visits are at one point.
    """
    stands = coming_stands(scheme, (kind, other, turn, (0, 0)))
    seconds = range(len(what_comes(scheme, other)))
    return [(own[1], [((number, second), stands[(number, second)]) for second in seconds])
            for number, own in enumerate(what_comes(scheme, kind))]


def _from_stand(scheme, bound, ways, stand):
    kind, other, turn, vector = stand
    slant = scheme.grid.slant
    if (kind, other, turn) not in ways:
        ways[(kind, other, turn)] = _ways_of(scheme, kind, other, turn)
    place = times(scheme.grid, vector, scheme.growth)
    found = []
    for back, rows in ways[(kind, other, turn)]:
        right, up = turned_by(scheme.grid, place, -back)
        for numbers, (own, met, own_turn, (more, higher)) in rows:
            # As norm_in and plus do it: calls would take most of the time of a search.
            x = right + more
            y = up + higher
            if x * x + slant * x * y + y * y <= bound:
                found.append(((own, met, own_turn, (x, y)), numbers))
    return found


def coming_from(scheme, bound, ways, seen):
    """The pairs of what comes from a kind or a stand, and of the numbers with which it comes.

    `ways` is a dict that keeps what is used again.
    """
    if is_kind_seen(seen):
        return _own_kinds(what_comes(scheme, seen)) + _near(scheme, bound, stands_within(scheme, seen))
    return _from_stand(scheme, bound, ways, seen)


def _following(scheme, bound, ways, origins, level, most):
    """The list of what comes from this level and was not found before; its origins are kept."""
    found = []
    order = origins[level[0]][0] + 1
    many = len([seen for seen in origins if not is_kind_seen(seen)])
    for seen in level:
        for own, numbers in coming_from(scheme, bound, ways, seen):
            if own not in origins:
                origins[own] = (order, seen, numbers)
                found.append(own)
                many = many + (0 if is_kind_seen(own) else 1)
        if many > most:
            raise TooMany(most)
    return found


def search(scheme, beginnings, most):
    """The dict from all that comes from the beginnings to its origin.

    An origin is the least order, what it comes from there, None for a beginning, and the numbers with which it
    comes.
    """
    bound = far_norm(scheme)
    ways = {}
    origins = {seen: (0, None, numbers) for seen, numbers in beginnings}
    level = list(origins)
    while len(level) > 0:
        level = _following(scheme, bound, ways, origins, level, most)
    return origins


def numbers_along(origins, seen):
    """The list of the pairs of numbers that lead from a beginning to what is seen, order by order."""
    pairs = []
    last = seen
    while last is not None:
        _, before, numbers = origins[last]
        pairs.append(numbers)
        last = before
    return pairs[::-1]


def has_all(scheme, kinds, stands):
    """Whether two tuples, of kinds and of stands, have those of order 0, and all that come from them."""
    bound = far_norm(scheme)
    ways = {}
    known = {seen: True for seen in kinds + stands}
    if not all([seen in known for seen, _ in first_seen(scheme, bound)]):
        return False
    for seen in kinds + stands:
        if not all([own in known for own, _ in coming_from(scheme, bound, ways, seen)]):
            return False
    return True
