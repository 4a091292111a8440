"""Kinds and stands of a scheme as numbers, so that what comes from them is told by a few sums.

The number of a kind is below 0. That of a stand that is not far tells, from its greatest part on, the ranks of
both kinds, the turn and the place of the vector: these numbers ascend as the stands do.

Kinds from which the same comes, but for the visit number 0, are one family. What comes from the two visits of a
stand is the same for all stands with equal families, turns and vectors, but for the ranks of the visits number 0.
"""

from grownlines.decide.circles import bounds_of, circle_of
from grownlines.decide.stands import may_show, showing


def kind_code(rank):
    """The number of the kind with this rank, and the rank of the kind with this number."""
    return -1 - rank


def _families(children):
    """The numbers of the families of kinds, from what comes from each, and what comes from each family."""
    known = {}
    numbers = [known.setdefault((own[0][1:], own[1:]), len(known)) for own in children]
    return (numbers, [children[numbers.index(number)] for number in range(len(known))])


class Codes:
    """The numbers of kinds, which are told with what comes from each, and of the stands between them."""

    def __init__(self, scheme, nearness, coming):
        kinds = tuple(sorted(list(coming)))
        children = [coming[kind] for kind in kinds]
        self.nearness = nearness
        self.kinds = kinds
        self.ranks = {kind: rank for rank, kind in enumerate(kinds)}
        self.children = children
        self.span = len(nearness.points)
        self.size = self.span * len(scheme.grid.units)
        self._many = len(scheme.grid.units)
        # The ranks of the kinds of what comes with the number 0.
        self._heirs = [self.ranks[own[0][0]] for own in children]
        self._families, self._rows = _families(children)
        self._firsts = {}
        self._circles = {}

    def among(self, triples):
        """The list of the numbers of the stands of all pairs of these visits, in their order, far ones left out."""
        nearness = self.nearness
        high = len(self.kinds) * self.size
        spans = [turn * self.span for turn in range(self._many)]
        seen = [(self.ranks[kind], turn % self._many, nearness.wide(point)) for kind, turn, point in triples]
        found = []
        for at, (rank, turn, place) in enumerate(seen):
            turned = nearness.turned(turn)
            # A place before the first one of a list is counted from its end.
            found.extend([rank * high + other * self.size + spans[more - turn] + turned[there - place]
                          for other, more, there in seen[at + 1:] if there - place in turned])
        return found

    def first_codes(self, triples):
        """The list of the numbers of the kinds of these visits, and of the stands between them."""
        return [kind_code(self.ranks[kind]) for kind, turn, point in triples] + self.among(triples)

    def pair(self, number):
        """The number of the families of a pair of kinds, and what is added to what stands in a row of theirs."""
        many = len(self.kinds)
        one = number // many
        other = number % many
        high = self._heirs[one] * many * self.size
        low = self._heirs[other] * self.size
        return (self._families[one] * len(self._rows) + self._families[other], (0, low, high, high + low))

    def most_pairs(self):
        """How many pairs of visits come at most from two families."""
        return max([len(row) for row in self._rows]) ** 2

    def block(self, families, turn):
        """What comes from two families at a turn, by pairs of a visit from the first and of one from the other.

        That is the vector between them as an integer, if the families are at one point, the places of near points,
        turned backward, which of the sums of a pair is added, and the rest of the number without its place.
        """
        one, other = divmod(families, len(self._rows))
        spans = [more * self.span for more in range(self._many)]
        seconds = self._seconds_of(other, turn)
        # A place before the first one of a list is counted from its end.
        return [(there - place, turned, sums - inner, high + low + spans[own - back])
                for sums, high, back, place, turned in self._firsts_of(one) for inner, low, own, there in seconds]

    def landings(self, families, turn):
        """As `block`, but with the list of where each vector lands, instead of what is told of vectors."""
        one, other = divmod(families, len(self._rows))
        spans = [more * self.span for more in range(self._many)]
        seconds = self._seconds_of(other, turn)
        return [(self.nearness.landings(there - place, back), sums - inner, high + low + spans[own - back])
                for sums, high, back, place, _ in self._firsts_of(one) for inner, low, own, there in seconds]

    def _seconds_of(self, family, turn):
        """What is told of the visits that come from a family at a turn, as of the other one of a pair."""
        right, up = self.nearness.axes(turn)
        return [(1 if second > 0 else 0, self.ranks[kind] * self.size if second > 0 else 0,
                 (turn + more) % self._many, x * right + y * up)
                for second, (kind, more, (x, y)) in enumerate(self._rows[family])]

    def _firsts_of(self, family):
        """What is told of the visits that come from a family, as of the first one of a pair."""
        if family not in self._firsts:
            nearness = self.nearness
            high = len(self.kinds) * self.size
            self._firsts[family] = [
                (1 if first > 0 else 3, self.ranks[kind] * high if first > 0 else 0, back, nearness.wide(start),
                 nearness.turned(back)) for first, (kind, back, start) in enumerate(self._rows[family])]
        return self._firsts[family]

    def row_in(self, block, place):
        """What comes from two families at a turn and a vector: pairs of which sum of a pair is added to a number.

        It stands in the order of the visits that come, and has no far stands.
        """
        base = self.nearness.bases[place]
        near = self.nearness.places
        return [(which, rest + turned[base + more]) for more, turned, which, rest in block if base + more in near]

    def head_of(self, code):
        """The families of a stand, its turn, and what is added to what stands in its rows."""
        families, sums = self.pair(code // self.size)
        return (families, code % self.size // self.span, sums)

    def numbers_to(self, code, own):
        """The first pair of numbers with which one stand comes from another one."""
        families, turn, sums = self.head_of(code)
        base = self.nearness.bases[code % self.span]
        near = self.nearness.places
        found = [at for at, (more, turned, which, rest) in enumerate(self.block(families, turn))
                 if base + more in near and rest + turned[base + more] + sums[which] == own]
        return divmod(found[0], len(self.children[code // self.size % len(self.kinds)]))

    def bounds(self, families, turn):
        """The bounds of the vectors of which something near comes from two families at a turn."""
        nearness = self.nearness
        one, other = divmod(families, len(self._rows))
        for family in (one, other):
            if family not in self._circles:
                starts = [start for kind, turn, start in self._rows[family]]
                self._circles[family] = circle_of(nearness.grid, starts)
        return bounds_of(nearness.grid, nearness.growth, nearness.reach, self._circles[one], self._circles[other], turn)

    def coming_kinds(self, rank):
        """The list of the numbers of all kinds and stands that come from a visit of the kind with this rank."""
        return self.first_codes(self.children[rank])

    def seen(self, code):
        """The kind or the stand with a number."""
        if code < 0:
            return self.kinds[kind_code(code)]
        pair, rest = divmod(code, self.size)
        one, other = divmod(pair, len(self.kinds))
        turn, place = divmod(rest, self.span)
        return (self.kinds[one], self.kinds[other], turn, self.nearness.points[place])

    def stands_of(self, codes):
        """The list of the stands with these numbers."""
        size = self.size
        heads = [(kind, other) for kind in self.kinds for other in self.kinds]
        tails = [(turn, point) for turn in range(self._many) for point in self.nearness.points]
        return [heads[code // size] + tails[code % size] for code in codes]

    def possible_pairs(self):
        """The list of the pairs of kinds that stands may have: the last visit sees none, and none sees the first."""
        many = len(self.kinds)
        return [one * many + other for one, kind in enumerate(self.kinds) for other, met in enumerate(self.kinds)
                if kind[1] != "" and met[0] != ""]

    def close_codes(self, pairs, fault):
        """The ascending list of the numbers of all stands with these pairs of kinds that may show a fault."""
        nearness = self.nearness
        tails = [turn * self.span + nearness.places[nearness.wide(vector)]
                 for turn, vector in showing(nearness.grid, fault)]
        return [pair * self.size + tail for pair in sorted(pairs) for tail in tails]

    def shows(self, code, fault):
        """Whether the stand with one of these numbers shows the fault."""
        kind, other, turn, _ = self.seen(code)
        return may_show(self.nearness.grid, kind, other, turn, fault)


def code_of(codes, value):
    """The number of a stand that is not far and has kinds among these; None for every other value."""
    if not isinstance(value, tuple) or len(value) != 4:
        return None
    kind, other, turn, vector = value
    if not isinstance(kind, tuple) or not isinstance(other, tuple) or not isinstance(vector, tuple):
        return None
    if len(kind) != 3 or len(other) != 3 or len(vector) != 2:
        return None
    before, after, bend = kind
    last, following, angle = other
    x, y = vector
    # What is looked up among kinds and vectors must be strings and integers.
    if (not isinstance(before, str) or not isinstance(after, str) or not isinstance(last, str)
            or not isinstance(following, str) or not isinstance(bend, int) or not isinstance(angle, int)
            or not isinstance(turn, int) or not isinstance(x, int) or not isinstance(y, int)):
        return None
    # True and False are integers for Python, but not here.
    if (bend is True or bend is False or angle is True or angle is False or turn is True or turn is False
            or x is True or x is False or y is True or y is False or turn < 0 or turn * codes.span >= codes.size):
        return None
    try:
        pair = codes.ranks[kind] * len(codes.kinds) + codes.ranks[other]
        return pair * codes.size + turn * codes.span + codes.nearness.spots[vector]
    except KeyError:
        return None
