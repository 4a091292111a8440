"""Searches through all kinds and stands that come from given ones, far stands left out.

They go through the numbers of kinds and stands, in the order in which these are found.
"""

from grownlines.decide.codes import kind_code
from grownlines.decide.stands import coming_stands, first_stands, stands_within
from grownlines.visits.kinds import first_visits, what_comes

# How many numbers are followed until it is looked whether there are too many.
_PART = 256


def _following(codes, origins, plan, part):
    """The list of what comes from a part of what was found, and was not found before; its origins are kept.

    `plan` keeps what is used again: the pairs, and of the rows that were told before what comes with a number 0.
    All else that comes from a row is found when it is told for the first time.
    """
    pairs, rows = plan
    size = codes.size
    found = []
    for code in part:
        if code < 0:
            row, sums = ([(0, own) for own in codes.coming_kinds(kind_code(code))], (0,))
        else:
            pair = code // size
            if pair not in pairs:
                pairs[pair] = codes.pair(pair)
            lead, sums = pairs[pair]
            number = code + lead
            if number in rows:
                row = rows[number]
            else:
                row = codes.row_at(number)
                rows[number] = [(which, own) for which, own in row if which > 0]
        for which, own in row:
            new = own + sums[which]
            if new not in origins:
                origins[new] = code
                found.append(new)
    return found


def _level_after(codes, origins, plan, level, most):
    """The list of all that comes from a level and was not found before, if not more than so many are found then."""
    found = []
    for at in range(0, len(level), _PART):
        found.extend(_following(codes, origins, plan, level[at:at + _PART]))
        if len(origins) > most:
            return None
    return found


def search(codes, beginnings, most, goals):
    """All that comes from the beginnings, and the list of the pairs of kinds of the stands from which something comes.

    That is the dict from the numbers, in the order in which they are found, to that from which each comes first,
    None for a beginning. It ends with the order of the first one that is among the goals, if there is one.
    It is None if more than so many are found.
    """
    origins = {code: None for code in beginnings}
    plan = ({}, {})
    level = list(origins)
    while len(level) > 0 and (len(goals) == 0 or not any([code in goals for code in level])):
        level = _level_after(codes, origins, plan, level, most)
        if level is None:
            return None
    return (origins, list(plan[0]))


def is_complete(codes, beginnings, known):
    """Whether these numbers have the beginnings among them, and all that comes from them."""
    origins = {code: None for code in known}
    if not all([code in origins for code in beginnings]):
        return False
    plan = ({}, {})
    for at in range(0, len(known), _PART):
        if len(_following(codes, origins, plan, known[at:at + _PART])) > 0:
            return False
    return True


def chain_of(origins, code):
    """The numbers that lead from a beginning to this one, order by order."""
    chain = []
    last = code
    while last is not None:
        chain.append(last)
        last = origins[last]
    return chain[::-1]


def _numbers_between(scheme, seen, own):
    """The first pair of numbers with which a kind or a stand comes from another one."""
    if is_stand_seen(seen):
        stands = coming_stands(scheme, seen)
    elif is_stand_seen(own):
        stands = stands_within(scheme, seen)
    else:
        stands = {(number, number): kind for number, (kind, turn, point) in enumerate(what_comes(scheme, seen))}
    for numbers in stands:
        if stands[numbers] == own:
            return numbers
    return None


def is_stand_seen(seen):
    """Whether one of the kinds and stands of a search is a stand."""
    return len(seen) == 4


def first_numbers(scheme, seen):
    """The last pair of numbers of visits of order 0 with a stand, or twice the last number of one with a kind."""
    stands = first_stands(scheme)
    kinds = {(number, number): kind for number, (kind, turn, point) in enumerate(first_visits(scheme))}
    return max([numbers for found in (stands, kinds) for numbers in found if found[numbers] == seen])


def numbers_along(scheme, chain):
    """The list of the pairs of numbers that lead along these kinds and stands, from the first one on."""
    return [_numbers_between(scheme, one, other) for one, other in zip(chain, chain[1:])]
