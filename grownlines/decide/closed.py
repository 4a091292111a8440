"""Whether kinds and stands have all that must be there: those of order 0, and all that comes from them.

Stands are told by the places of their vectors, by heads: the parts of their numbers without these places.
"""

from grownlines.decide.codes import kind_code

# Where two visits have at most so many pairs, and there are so many stands, the pairs are looked at one by one.
_FEW = 16
_MANY = 400


def is_complete(codes, beginnings, kinds, runs):
    """Whether kinds, by numbers, and stands, by heads, have the beginnings among them, and all that comes from them."""
    needed = beginnings + [own for code in kinds for own in codes.coming_kinds(kind_code(code))]
    groups = {}
    for head in runs:
        families, sums = codes.pair(head * codes.span // codes.size)
        turn = head % (codes.size // codes.span)
        groups.setdefault((families, turn), []).append((sums, runs[head]))
    if codes.most_pairs() <= _FEW and sum([len(runs[head]) for head in runs]) >= _MANY:
        return _has_places(codes, needed, kinds, runs) and _has_landings(codes, runs, groups)
    known = {head * codes.span + place: True for head in runs for place in runs[head]}
    known.update({code: True for code in kinds})
    return all([code in known for code in needed]) and _has_rows(codes, known, groups)


def _has_places(codes, needed, kinds, runs):
    """Whether all numbers that are needed are there."""
    there = {code: True for code in kinds}
    for code in needed:
        if code < 0 and code not in there:
            return False
        if code >= 0 and code % codes.span not in runs.get(code // codes.span, ()):
            return False
    return True


def _has_landings(codes, runs, groups):
    """Whether all that comes is there, where few pairs of visits come from two: they are looked at one by one."""
    span = codes.span
    # Beside the places stands None, where a vector lands if it leads to no near point.
    nothing = {None: True}
    known = {head: {place: True for place in runs[head] + [None]} for head in runs}
    for families, turn in groups:
        group = groups[(families, turn)]
        # What comes with numbers of visits above 0 is the same for all kinds.
        whole = [((0,), list({place: True for _, places in group for place in places}))]
        for landings, which, rest in codes.landings(families, turn):
            for sums, places in group if which > 0 else whole:
                there = known.get((rest + sums[which]) // span, nothing)
                if not all([landings[place] in there for place in places]):
                    return False
    return True


def _has_rows(codes, known, groups):
    """Whether all that comes is there, where many pairs of visits come from two: vectors are looked at one by one."""
    shapes = codes.nearness.shapes()
    for families, turn in groups:
        group = groups[(families, turn)]
        often, right, up, most = codes.bounds(families, turn)
        whole = list({place: True for _, places in group for place in places})
        bases = {place: base for place in whole for x, y, norm, base in (shapes[place],)
                 if often * norm + right * x + up * y <= most}
        block = codes.block(families, turn)
        if not _has_inner(codes, known, block, bases) or not _has_outer(codes, known, block, bases, group):
            return False
    return True


def _has_inner(codes, known, block, bases):
    """Whether all that comes with numbers of visits above 0 is there: it is the same for all kinds."""
    near = codes.nearness.places
    pairs = [(more, turned, rest) for more, turned, which, rest in block if which == 0]
    return all([rest + turned[base + more] in known for base in list(bases.values()) for more, turned, rest in pairs
                if base + more in near])


def _has_outer(codes, known, block, bases, group):
    """Whether all else is there that comes from these places, by pairs of kinds."""
    pairs = [pair for pair in block if pair[2] > 0]
    rows = {place: codes.row_in(pairs, place) for place in bases}
    for sums, places in group:
        if not all([own + sums[which] in known for place in places if place in rows for which, own in rows[place]]):
            return False
    return True
