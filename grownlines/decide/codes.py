"""Kinds and stands of a scheme as numbers, so that what comes from them is told by a few sums.

The number of a kind is below 0. That of a stand that is not far tells, from its greatest part on, the ranks of
both kinds, the turn and the place of the vector: these numbers ascend as the stands do.

Kinds from which the same comes, but for the visit number 0, are one family. What comes from the two visits of a
stand is the same for all stands with equal families, turns and vectors, but for the ranks of the visits number 0.
"""

from grownlines.base.points import turned_by
from grownlines.decide.stands import may_show, showing
from grownlines.visits.kinds import what_comes


def kind_code(rank):
    """The number of the kind with this rank, and the rank of the kind with this number."""
    return -1 - rank


def _families(children):
    """The numbers of the families of kinds, from what comes from each, and what comes from each family."""
    known = {}
    numbers = [known.setdefault((own[0][1:], own[1:]), len(known)) for own in children]
    return (numbers, [children[numbers.index(number)] for number in range(len(known))])


class Codes:
    """The numbers of kinds, of which only kinds among them come, and of the stands between them."""

    def __init__(self, scheme, nearness, kinds):
        children = [what_comes(scheme, kind) for kind in kinds]
        self.nearness = nearness
        self.kinds = kinds
        self.ranks = {kind: rank for rank, kind in enumerate(kinds)}
        self.children = children
        self.span = len(nearness.points)
        self.size = self.span * len(scheme.grid.units)
        self._many = len(scheme.grid.units)
        self._families, self._rows = _families(children)
        self._blocks = {}

    def among(self, triples):
        """The list of the numbers of the stands of all pairs of these visits, in their order, far ones left out."""
        nearness = self.nearness
        seen = [(self.ranks[kind], turn, nearness.wide(point)) for kind, turn, point in triples]
        found = []
        for at, (rank, turn, place) in enumerate(seen):
            turned = nearness.turned(turn)
            for other, more, there in seen[at + 1:]:
                if there - place in turned:
                    pair = rank * len(self.kinds) + other
                    found.append(pair * self.size + (more - turn) % self._many * self.span + turned[there - place])
        return found

    def first_codes(self, triples):
        """The list of the numbers of the kinds of these visits, and of the stands between them."""
        return [kind_code(self.ranks[kind]) for kind, turn, point in triples] + self.among(triples)

    def pair(self, number):
        """What leads from the numbers of stands with two kinds to their rows, and what is added to those in a row."""
        one, other = divmod(number, len(self.kinds))
        families = self._families[one] * len(self._rows) + self._families[other]
        high = self.ranks[self.children[one][0][0]] * len(self.kinds) * self.size
        low = self.ranks[self.children[other][0][0]] * self.size
        return ((families - number) * self.size, (0, low, high, high + low))

    def _block(self, number):
        """What comes from two families at a turn, by pairs of a visit from the first and of one from the other.

        That is the vector between them as an integer, if the families are at one point, which of the sums of a pair
        is added, the rest of the number without its place, and the places of near points, turned backward.
        """
        families, turn = divmod(number, self._many)
        one, other = divmod(families, len(self._rows))
        nearness = self.nearness
        seconds = [(second, self.ranks[kind] * self.size, turn + more,
                    nearness.wide(turned_by(nearness.grid, start, turn)))
                   for second, (kind, more, start) in enumerate(self._rows[other])]
        found = []
        for first, (kind, back, start) in enumerate(self._rows[one]):
            high = self.ranks[kind] * len(self.kinds) * self.size
            place = nearness.wide(start)
            turned = nearness.turned(back)
            for second, low, own, there in seconds:
                rest = (high if first > 0 else 0) + (low if second > 0 else 0) + (own - back) % self._many * self.span
                found.append((there - place, (0 if first > 0 else 2) + (0 if second > 0 else 1), rest, turned))
        return found

    def row_at(self, number):
        """What comes from two families at a turn and a vector: pairs of which sum of a pair is added to a number.

        It stands in the order of the visits that come, and has no far stands.
        """
        block, place = divmod(number, self.span)
        nearness = self.nearness
        base = nearness.bases[place]
        if base is None:
            return []
        if block not in self._blocks:
            self._blocks[block] = self._block(block)
        near = nearness.places
        return [(which, rest + turned[base + more]) for more, which, rest, turned in self._blocks[block]
                if base + more in near]

    def coming_kinds(self, rank):
        """The list of the numbers of all kinds and stands that come from a visit of the kind with this rank."""
        return self.first_codes(self.children[rank])

    def all_coming(self, codes):
        """The list of the lists of the numbers of all that comes from these ones, far stands left out."""
        rows = {}
        pairs = {}
        found = []
        for code in codes:
            if code < 0:
                found.append(self.coming_kinds(kind_code(code)))
                continue
            pair = code // self.size
            if pair not in pairs:
                pairs[pair] = self.pair(pair)
            lead, sums = pairs[pair]
            if code + lead not in rows:
                rows[code + lead] = self.row_at(code + lead)
            found.append([own + sums[which] for which, own in rows[code + lead]])
        return found

    def seen(self, code):
        """The kind or the stand with a number."""
        if code < 0:
            return self.kinds[kind_code(code)]
        pair, rest = divmod(code, self.size)
        one, other = divmod(pair, len(self.kinds))
        turn, place = divmod(rest, self.span)
        return (self.kinds[one], self.kinds[other], turn, self.nearness.points[place])

    def stands_of(self, codes):
        """The list of the stands with these numbers."""
        size = self.size
        heads = [(kind, other) for kind in self.kinds for other in self.kinds]
        tails = [(turn, point) for turn in range(self._many) for point in self.nearness.points]
        return [heads[code // size] + tails[code % size] for code in codes]

    def possible_pairs(self):
        """The list of the pairs of kinds that stands may have: the last visit sees none, and none sees the first."""
        many = len(self.kinds)
        return [one * many + other for one, kind in enumerate(self.kinds) for other, met in enumerate(self.kinds)
                if kind[1] != "" and met[0] != ""]

    def close_codes(self, pairs, fault):
        """The ascending list of the numbers of all stands with these pairs of kinds that may show a fault."""
        nearness = self.nearness
        tails = [turn * self.span + nearness.places[nearness.wide(vector)]
                 for turn, vector in showing(nearness.grid, fault)]
        return [pair * self.size + tail for pair in sorted(pairs) for tail in tails]

    def shows(self, code, fault):
        """Whether the stand with one of these numbers shows the fault."""
        kind, other, turn, _ = self.seen(code)
        return may_show(self.nearness.grid, kind, other, turn, fault)

    def code_of(self, stand):
        """The number of a tuple that has the form of a stand; None if it is far, or its kinds are none of these."""
        kind, other, turn, vector = stand
        nearness = self.nearness
        if kind not in self.ranks or other not in self.ranks or not nearness.is_near(vector):
            return None
        pair = self.ranks[kind] * len(self.kinds) + self.ranks[other]
        return pair * self.size + turn * self.span + nearness.places[nearness.wide(vector)]
