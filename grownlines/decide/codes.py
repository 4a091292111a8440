"""Kinds and stands of a scheme as numbers, so that what comes from them is told by a few sums.

The number of a kind is below 0. That of a stand that is not far tells, from its greatest part on, the ranks of
both kinds, the turn and the place of the vector: these numbers ascend as the stands do.

Kinds from which the same comes, but for the visit number 0, are one family. What comes from the two visits of a
stand is the same for all stands with equal families, turns and vectors, but for the ranks of the visits number 0.
"""

from grownlines.base.points import turned_by
from grownlines.visits.kinds import what_comes


def kind_code(rank):
    """The number of the kind with this rank, and the rank of the kind with this number."""
    return -1 - rank


def _families(children):
    """The numbers of the families of kinds, from what comes from each, and what comes from each family."""
    known = {}
    numbers = [known.setdefault((own[0][1:], own[1:]), len(known)) for own in children]
    return (numbers, [children[numbers.index(number)] for number in range(len(known))])


class Codes:
    """The numbers of kinds, of which only kinds among them come, and of the stands between them."""

    def __init__(self, scheme, nearness, kinds):
        children = [what_comes(scheme, kind) for kind in kinds]
        self.nearness = nearness
        self.kinds = kinds
        self.ranks = {kind: rank for rank, kind in enumerate(kinds)}
        self.children = children
        self.span = len(nearness.points)
        self.size = self.span * len(scheme.grid.units)
        self._many = len(scheme.grid.units)
        self._families, self._rows = _families(children)
        self._blocks = {}

    def among(self, triples):
        """The list of the numbers of the stands of all pairs of these visits, in their order, far ones left out."""
        nearness = self.nearness
        seen = [(self.ranks[kind], turn, nearness.wide(point)) for kind, turn, point in triples]
        found = []
        for at, (rank, turn, place) in enumerate(seen):
            turned = nearness.turned(turn)
            for other, more, there in seen[at + 1:]:
                if there - place in turned:
                    pair = rank * len(self.kinds) + other
                    found.append(pair * self.size + (more - turn) % self._many * self.span + turned[there - place])
        return found

    def first_codes(self, triples):
        """The list of the numbers of the kinds of these visits, and of the stands between them."""
        return [kind_code(self.ranks[kind]) for kind, turn, point in triples] + self.among(triples)

    def pair(self, number):
        """Where the rows of two kinds begin, and what their visits number 0 add to the numbers in a row."""
        one, other = divmod(number, len(self.kinds))
        begin = (self._families[one] * len(self._rows) + self._families[other]) * self.size
        high = self.ranks[self.children[one][0][0]] * len(self.kinds) * self.size
        low = self.ranks[self.children[other][0][0]] * self.size
        return (begin, (0, low, high, high + low))

    def _block(self, number):
        """What comes from two families at a turn, by the visits that come from the first one.

        That is where each of them is, the places of near points turned backward by it, and for each visit that
        comes from the other one where it is, which of the sums of the pair belongs to it, and the rest of the number.
        """
        if number in self._blocks:
            return self._blocks[number]
        families, turn = divmod(number, self._many)
        one, other = divmod(families, len(self._rows))
        nearness = self.nearness
        seconds = [(second, kind, turn + more, nearness.wide(turned_by(nearness.grid, start, turn)))
                   for second, (kind, more, start) in enumerate(self._rows[other])]
        found = []
        for first, (kind, back, start) in enumerate(self._rows[one]):
            high = 0 if first == 0 else self.ranks[kind] * len(self.kinds) * self.size
            row = []
            for second, met, own, place in seconds:
                low = 0 if second == 0 else self.ranks[met] * self.size
                which = (2 if first == 0 else 0) + (1 if second == 0 else 0)
                row.append((place, which, high + low + (own - back) % self._many * self.span))
            found.append((nearness.wide(start), nearness.turned(back), row))
        self._blocks[number] = found
        return found

    def row(self, number):
        """What comes from two families at a turn and a vector: pairs of which sum of the pair is added to a number.

        It stands in the order of the visits that come, and has no far stands.
        """
        block, place = divmod(number, self.span)
        base = self.nearness.bases[place]
        found = []
        if base is None:
            return found
        for start, turned, seconds in self._block(block):
            own = base - start
            for there, which, rest in seconds:
                if own + there in turned:
                    found.append((which, rest + turned[own + there]))
        return found

    def coming_kinds(self, rank):
        """The list of the numbers of all kinds and stands that come from a visit of the kind with this rank."""
        return self.first_codes(self.children[rank])

    def all_coming(self, codes):
        """The list of the lists of the numbers of all that comes from these ones, far stands left out."""
        rows = {}
        pairs = {}
        found = []
        for code in codes:
            if code < 0:
                found.append(self.coming_kinds(kind_code(code)))
                continue
            pair, rest = divmod(code, self.size)
            if pair not in pairs:
                pairs[pair] = self.pair(pair)
            begin, sums = pairs[pair]
            if begin + rest not in rows:
                rows[begin + rest] = self.row(begin + rest)
            found.append([own + sums[which] for which, own in rows[begin + rest]])
        return found

    def seen(self, code):
        """The kind or the stand with a number."""
        return self.kinds[kind_code(code)] if code < 0 else self.stands_of([code], [code // self.size])[0]

    def stands_of(self, codes, pairs):
        """The list of the stands with these numbers; their pairs of kinds are among these ones."""
        many = len(self.kinds)
        size = self.size
        heads = {pair: (self.kinds[pair // many], self.kinds[pair % many]) for pair in pairs}
        tails = [(turn, point) for turn in range(self._many) for point in self.nearness.points]
        return [heads[code // size] + tails[code % size] for code in codes]

    def close_codes(self, pairs):
        """The ascending list of the numbers of the stands that may show faults, of these pairs of kinds."""
        nearness = self.nearness
        places = [nearness.places[nearness.wide(vector)] for vector in ((0, 0), nearness.grid.units[0])]
        return [pair * self.size + turn * self.span + place for pair in sorted(pairs) for turn in range(self._many)
                for place in places]

    def code_of(self, stand):
        """The number of a tuple that has the form of a stand; None if it is far, or its kinds are none of these."""
        kind, other, turn, vector = stand
        nearness = self.nearness
        if kind not in self.ranks or other not in self.ranks or not nearness.is_near(vector):
            return None
        pair = self.ranks[kind] * len(self.kinds) + self.ranks[other]
        return pair * self.size + turn * self.span + nearness.places[nearness.wide(vector)]
