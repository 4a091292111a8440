"""Whether two schemes draw the same lines, and where they part."""

from grownlines.base.words import is_count
from grownlines.errors import InvalidOperation
from grownlines.lines.grown import MAX_ORDER, check_order, check_scheme, length_of
from grownlines.lines.places import step_at


def _items(scheme):
    """How many items each rule of an even scheme has."""
    return len(scheme[scheme.letters[0]].row)


def can_be_compared(one, other):
    """Whether two schemes have one grid, and all their rules equally many items."""
    return one.grid == other.grid and one.is_even and other.is_even and _items(one) == _items(other)


def _check_pair(one, other):
    check_scheme(one)
    check_scheme(other)
    if not can_be_compared(one, other):
        raise InvalidOperation("schemes of one grid with equally many items in all rules are asked for")


def _beside(one, other, many, turn):
    """The list of the triples of two letters and a turn, from two rows of items, side by side.

    The turn is that from the first item to the other one, if the other row is turned by this turn ahead of it.
    """
    return [(letter, met, (turn + more - own) % many) for (letter, own), (met, more) in zip(one, other)]


def _coming(one, other, triple):
    letter, met, turn = triple
    return _beside(one[letter].row, other[met].row, len(one.grid.units), turn)


def _followers(one, other, turn):
    """The triples of the axioms, and the dict from these and all that come from them to what comes from each."""
    firsts = _beside(one.axiom, other.axiom, len(one.grid.units), turn)
    followers = {}
    waiting = list(firsts)
    while waiting:
        triple = waiting.pop()
        if triple not in followers:
            followers[triple] = _coming(one, other, triple)
            waiting.extend(followers[triple])
    return (firsts, followers)


def _are_turned(one, other, turn):
    """Whether the lines of the first scheme are those of the other one, turned by this turn."""
    if len(one.axiom) != len(other.axiom):
        return False
    _, followers = _followers(one, other, turn)
    return all([triple[2] == 0 for triple in followers])


def are_alike(one, other):
    """Whether the lines of each order have equal directions."""
    _check_pair(one, other)
    return _are_turned(one, other, 0)


def _by_orders(followers, order):
    """By orders: the dict from all triples to whether all that comes from their two steps has equal directions."""
    levels = [{triple: triple[2] == 0 for triple in followers}]
    for _ in range(order):
        last = levels[-1]
        levels.append({triple: all([last[own] for own in followers[triple]]) for triple in followers})
    return levels


def _first_of(triples, equal):
    """The index of the first of these triples that are not equal, how many there are if all are."""
    for index, triple in enumerate(triples):
        if not equal[triple]:
            return index
    return len(triples)


def _agreement(one, other, order):
    firsts, followers = _followers(one, other, 0)
    levels = _by_orders(followers, order)
    triples = firsts
    number = 0
    for equal in levels[::-1]:
        index = _first_of(triples, equal)
        number = number * _items(one) + index
        # Behind what is equal there is nothing: then all that comes from there counts.
        triples = followers[triples[index]] if index < len(triples) else []
    return number


def agreement(one, other, order):
    """How many first steps of the two lines of an order have equal directions."""
    _check_pair(one, other)
    check_order(order)
    return _agreement(one, other, order)


def _parting(one, other):
    """As `parting`, of schemes that part."""
    order = 0
    number = _agreement(one, other, order)
    while len(one.axiom) == len(other.axiom) and number == length_of(one, order):
        order += 1
        number = _agreement(one, other, order)
    return (order, number)


def parting(one, other):
    """The order at which two schemes part and the number of the first step that differs; None if they are alike."""
    _check_pair(one, other)
    return None if _are_turned(one, other, 0) else _parting(one, other)


def turn_between(one, other):
    """The turn by which the lines of the first scheme are those of the other one, None if there is none."""
    _check_pair(one, other)
    # The first steps allow for one turn alone.
    turn = (other.axiom[0][1] - one.axiom[0][1]) % len(one.grid.units)
    return turn if _are_turned(one, other, -turn) else None


def likeness_paper(one, other):
    """A paper that shows that two schemes are alike, or where they part."""
    _check_pair(one, other)
    if not _are_turned(one, other, 0):
        order, number = _parting(one, other)
        return ("parts", order, number)
    _, followers = _followers(one, other, 0)
    return ("alike", tuple(sorted([(letter, met) for letter, met, turn in followers])))


def is_likeness_paper(one, other, value):
    """Whether the value is a paper for the likeness of two schemes."""
    _check_pair(one, other)
    if not isinstance(value, tuple):
        return False
    if len(value) == 2 and value[0] == "alike":
        return _are_pairs(one, other, value[1]) and _has_all_pairs(one, other, value[1])
    return len(value) == 3 and value[0] == "parts" and _is_parting(one, other, value[1], value[2])


def _are_pairs(one, other, value):
    """Whether the value is an ascending tuple of pairs of letters of both schemes."""
    if not isinstance(value, tuple) or not all([isinstance(pair, tuple) and len(pair) == 2 for pair in value]):
        return False
    if not all([letter in one.letters and met in other.letters for letter, met in value]):
        return False
    return all([pair < following for pair, following in zip(value, value[1:])])


def _has_all_pairs(one, other, pairs):
    if len(one.axiom) != len(other.axiom):
        return False
    known = {(letter, met, 0): True for letter, met in pairs}
    rows = [_coming(one, other, triple) for triple in known] + [_beside(one.axiom, other.axiom, len(one.grid.units), 0)]
    return all([triple in known for row in rows for triple in row])


def _is_parting(one, other, order, number):
    """Whether the lines of an order differ at a step that both have, or this is the number of steps of the shorter."""
    if not is_count(order) or order > MAX_ORDER or not is_count(number):
        return False
    lengths = (length_of(one, order), length_of(other, order))
    if number >= min(lengths):
        return lengths[0] != lengths[1] and number == min(lengths)
    return step_at(one, order, number)[1] != step_at(other, order, number)[1]
