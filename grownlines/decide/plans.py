"""How a search goes on: what comes from numbers of kinds and stands, and what of that is used again."""

from grownlines.decide.codes import kind_code

# How many pairs a row has at most that is kept as it is for what comes later.
_SHORT = 4

# Where two families have more pairs of visits than this, it is looked ahead whether anything near comes from vectors.
_FEW = 24


def is_light(codes):
    """Whether few pairs of visits come from two visits, and there are not too many kinds."""
    most = codes.most_pairs()
    return most <= 4 or most <= 9 and len(codes.kinds) <= 20


def plan_of(codes):
    """The plan with which a search takes the least time."""
    return LandingPlan(codes) if is_light(codes) else RowPlan(codes)


def _pairs_of(codes, heads):
    """The list of the pairs of kinds with these heads."""
    turns = codes.size // codes.span
    return list({head // turns: True for head in heads})


class DirectPlan:
    """A plan for few numbers: what comes from each of them is told anew.

    By heads, the parts of numbers without the place of the vector, it keeps the blocks and what is added.
    """

    def __init__(self, codes):
        self._codes = codes
        self._heads = {}
        self._blocks = {}

    def pairs(self):
        """The list of the pairs of kinds of the stands that were followed."""
        return _pairs_of(self._codes, self._heads)

    def following(self, origins, part):
        """The list of what comes from a part of what was found, and was not found before; its origins are kept."""
        codes = self._codes
        found = []
        for code in part:
            for new in codes.coming_kinds(kind_code(code)) if code < 0 else self._coming(code):
                if new not in origins:
                    origins[new] = code
                    found.append(new)
        return found

    def _coming(self, code):
        """The list of the numbers of all that comes from a stand."""
        codes = self._codes
        head = code // codes.span
        if head not in self._heads:
            families, turn, sums = codes.head_of(code)
            if (families, turn) not in self._blocks:
                self._blocks[(families, turn)] = codes.block(families, turn)
            self._heads[head] = (self._blocks[(families, turn)], sums)
        block, sums = self._heads[head]
        return [own + sums[which] for which, own in codes.row_in(block, code % codes.span)]


class RowPlan:
    """A plan for rules with many items: what comes from two families at a turn and a vector is told in a row.

    For pairs of kinds, it keeps the rows by the rest of a number, what is added to them, and the blocks by turns, with
    their bounds. All that comes with numbers of visits above 0 is found when a row is told for the first time: of long
    rows, only the rest is kept.
    """

    def __init__(self, codes):
        self._codes = codes
        self._pairs = {}
        self._families = {}
        self._shapes = codes.nearness.shapes()
        # Nothing near comes from vectors that lead far away.
        self._blank = [None if is_low else [] for is_low in codes.nearness.low_places()]

    def pairs(self):
        """The list of the pairs of kinds of the stands that were followed."""
        return list(self._pairs)

    def following(self, origins, part):
        """The list of what comes from a part of what was found, and was not found before; its origins are kept."""
        pairs = self._pairs
        size = self._codes.size
        span = self._codes.span
        shapes = self._shapes
        near = self._codes.nearness.places
        found = []
        for code in part:
            try:
                rows, sums, blocks = pairs[code // size]
            except KeyError:
                rows, sums, blocks = self._meet(code)
            tail = code % size
            row = rows[tail]
            if row is None:
                block, often, right, up, most = blocks[tail // span] or self._begin(blocks, code)
                x, y, norm, base = shapes[tail % span]
                row = []
                if often * norm + right * x + up * y <= most:
                    row = [(which, rest + turned[base + more]) for more, turned, which, rest in block
                           if base + more in near]
                rows[tail] = row if len(row) <= _SHORT else [(which, own) for which, own in row if which > 0]
            for which, own in row:
                new = own + sums[which]
                if new not in origins:
                    origins[new] = code
                    found.append(new)
        return found

    def _meet(self, code):
        """What is kept of a pair of kinds that was not met before; of a kind, the row of this kind alone."""
        codes = self._codes
        size = codes.size
        if code < 0:
            return ({code % size: [(0, own) for own in codes.coming_kinds(kind_code(code))]}, (0,), None)
        families, sums = codes.pair(code // size)
        if families not in self._families:
            turns = size // codes.span
            self._families[families] = (self._blank * turns, [None] * turns)
        rows, blocks = self._families[families]
        self._pairs[code // size] = (rows, sums, blocks)
        return (rows, sums, blocks)

    def _begin(self, blocks, code):
        """Keep the block of a stand, with its bounds."""
        families, turn, _ = self._codes.head_of(code)
        block = self._codes.block(families, turn)
        bounds = self._codes.bounds(families, turn) if len(block) > _FEW else (0, 0, 0, 0)
        blocks[turn] = (block, *bounds)
        return blocks[turn]


class LandingPlan:
    """A plan for rules with few items: for each pair of visits it is told where all vectors land.

    By heads, it keeps the pairs of such a list and of what is added.
    """

    def __init__(self, codes):
        self._codes = codes
        self._heads = {}
        self._blocks = {}

    def pairs(self):
        """The list of the pairs of kinds of the stands that were followed."""
        return _pairs_of(self._codes, self._heads)

    def following(self, origins, part):
        """The list of what comes from a part of what was found, and was not found before; its origins are kept."""
        heads = self._heads
        span = self._codes.span
        found = []
        for code in part:
            try:
                pairs = heads[code // span]
            except KeyError:
                pairs = self._meet(code)
            place = code % span
            for landings, rest in pairs:
                there = landings[place]
                if there is not None:
                    new = rest + there
                    if new not in origins:
                        origins[new] = code
                        found.append(new)
        return found

    def _meet(self, code):
        """What is kept of two kinds at a turn that were not met before; of a kind, what comes from this kind alone."""
        codes = self._codes
        if code < 0:
            return [({code % codes.span: own}, 0) for own in codes.coming_kinds(kind_code(code))]
        families, turn, sums = codes.head_of(code)
        if (families, turn) not in self._blocks:
            self._blocks[(families, turn)] = codes.landings(families, turn)
        pairs = [(landings, rest + sums[which]) for landings, which, rest in self._blocks[(families, turn)]]
        self._heads[code // codes.span] = pairs
        return pairs
