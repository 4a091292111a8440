"""Searches through all kinds and stands that come from given ones, far stands left out.

They go through the numbers of kinds and stands, in the order in which these are found.
"""

from grownlines.decide.codes import kind_code
from grownlines.decide.plans import DirectPlan, is_light, plan_of
from grownlines.decide.stands import first_stands, stands_within
from grownlines.visits.kinds import first_visits

# How many numbers are followed until it is looked whether there are too many.
_PART = 256

# How many numbers of one order are followed at most by a plan that needs no preparation.
_GREAT = 80


def _level_after(plan, origins, level, most):
    """The list of all that comes from a level and was not found before, if not more than so many are found then."""
    found = []
    for at in range(0, len(level), _PART):
        found.extend(plan.following(origins, level[at:at + _PART]))
        if len(origins) > most:
            return None
    return found


def search(codes, beginnings, most, goals, fault):
    """All that comes from the beginnings: its origins, its levels, and the pairs of kinds that were followed.

    That is the dict from the numbers, in the order in which they are found, to that from which each comes first,
    None for a beginning; the list, by orders, of the lists of those found there; and the list of the pairs of kinds of
    the stands from which something comes. It ends with the order of the first one that is among the goals and shows a
    fault, if there is one. It is None if more than so many are found.
    """
    origins = {code: None for code in beginnings}
    levels = [list(origins)]
    # A search that may end early begins with the plan that needs the least preparation.
    is_short = len(goals) > 0 and is_light(codes)
    plans = [DirectPlan(codes) if is_short else plan_of(codes)]
    while len(levels[-1]) > 0:
        if len(goals) > 0 and any([code in goals and codes.shows(code, fault) for code in levels[-1]]):
            break
        if is_short and len(levels[-1]) > _GREAT:
            is_short = False
            plans.append(plan_of(codes))
        level = _level_after(plans[-1], origins, levels[-1], most)
        if level is None:
            return None
        levels.append(level)
    return (origins, levels, list({pair: True for plan in plans for pair in plan.pairs()}))


def all_coming(codes, numbers):
    """The list of the lists of the numbers of all that comes from these ones, far stands left out."""
    heads = {}
    blocks = {}
    found = []
    for code in numbers:
        if code < 0:
            found.append(codes.coming_kinds(kind_code(code)))
            continue
        head = code // codes.span
        place = code % codes.span
        if head not in heads:
            families, turn, sums = codes.head_of(code)
            if (families, turn) not in blocks:
                blocks[(families, turn)] = (codes.block(families, turn), {})
            block, rows = blocks[(families, turn)]
            heads[head] = (sums, block, rows)
        sums, block, rows = heads[head]
        if place not in rows:
            rows[place] = codes.row_in(block, place)
        found.append([own + sums[which] for which, own in rows[place]])
    return found


def chain_of(origins, code):
    """The numbers that lead from a beginning to this one, order by order."""
    chain = []
    last = code
    while last is not None:
        chain.append(last)
        last = origins[last]
    return chain[::-1]


def _numbers_between(codes, scheme, code, own):
    """The first pair of numbers with which a kind or a stand comes from another one."""
    if code >= 0:
        return codes.numbers_to(code, own)
    seen = codes.seen(own)
    if own >= 0:
        stands = stands_within(scheme, codes.seen(code))
    else:
        stands = {(number, number): kind for number, (kind, turn, point) in enumerate(codes.children[kind_code(code)])}
    for numbers in stands:
        if stands[numbers] == seen:
            return numbers
    return None


def first_numbers(scheme, seen):
    """The last pair of numbers of visits of order 0 with a stand, or twice the last number of one with a kind."""
    stands = first_stands(scheme)
    kinds = {(number, number): kind for number, (kind, turn, point) in enumerate(first_visits(scheme))}
    return max([numbers for found in (stands, kinds) for numbers in found if found[numbers] == seen])


def numbers_along(codes, scheme, chain):
    """The list of the pairs of numbers that lead along these kinds and stands, from the first one on."""
    return [_numbers_between(codes, scheme, one, other) for one, other in zip(chain, chain[1:])]
