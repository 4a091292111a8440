"""How much comes from each letter, order by order, without drawing it."""


def added_up(pairs):
    """The dict from what is counted to the sum of its numbers."""
    counts = {}
    for counted, many in pairs:
        counts[counted] = counts.get(counted, 0) + many
    return counts


def _groups(keys):
    """The dict from each letter to the number of its group: letters with equal keys are one group."""
    numbers = {}
    return {letter: numbers.setdefault(keys[letter], len(numbers)) for letter in keys}


def _lasting_groups(scheme, weights):
    """As `_groups`, of letters that have the same weights at all orders."""
    groups = _groups(weights)
    wider = {}
    while groups != wider:
        wider = groups
        rows = {letter: sorted([wider[other] for other, turn in scheme[letter].row]) for letter in wider}
        groups = _groups({letter: (wider[letter], tuple(rows[letter])) for letter in wider})
    return groups


def tallies(scheme, order, weights):
    """The weight of what comes from each letter, by orders.

    `weights` tells for each letter the weight of a step with it. The tallies are a pair: the dict from letters to
    the numbers of their groups, and the list, by orders from 0 on, of the lists of the weights of the groups.
    """
    # Letters that always have the same weights are added up only once: often that is all letters.
    groups = _lasting_groups(scheme, weights)
    firsts = {groups[letter]: letter for letter in groups}
    letters = [firsts[group] for group in range(len(firsts))]
    counts = [added_up([(groups[other], 1) for other, turn in scheme[letter].row]) for letter in letters]
    shares = [[(group, own[group]) for group in own] for own in counts]
    level = [weights[letter] for letter in letters]
    levels = [level]
    for _ in range(order):
        level = [sum([many * level[group] for group, many in share]) for share in shares]
        levels.append(level)
    return (groups, levels)


def step_tallies(scheme, order):
    """The tallies of all steps."""
    return tallies(scheme, order, {letter: 1 for letter in scheme.letters})


def letter_tallies(scheme, order, letter):
    """The tallies of the steps with one letter."""
    return tallies(scheme, order, {own: 1 if own == letter else 0 for own in scheme.letters})


def weight_of(row, tally, order):
    """The weight of what comes, by an order, from a row of items."""
    groups, levels = tally
    return sum([levels[order][groups[letter]] for letter, turn in row])


def _matrix(scheme):
    """For each letter, the list of how often its rule has each letter."""
    rows = [[letter for letter, turn in scheme[own].row] for own in scheme.letters]
    return [[row.count(letter) for letter in scheme.letters] for row in rows]


def joined(one, other):
    """The product of two matrices."""
    columns = list(zip(*other))
    return [[sum([left * right for left, right in zip(row, column)]) for column in columns] for row in one]


def powered(matrix, many, multiply):
    """The product of so many equal matrices, at least one, by a function that multiplies two."""
    if many == 1:
        return matrix
    half = powered(matrix, many // 2, multiply)
    whole = multiply(half, half)
    return multiply(whole, matrix) if many % 2 == 1 else whole


def _counted(scheme, row):
    """The list, by the letters of the scheme, of how many of these items or steps have them."""
    found = [letter for letter, turn in row]
    return [found.count(letter) for letter in scheme.letters]


def _by_letters(scheme, counts):
    return {letter: many for letter, many in zip(scheme.letters, counts)}


def letters_after(scheme, row, order):
    """The dict from all letters to how many steps with them come, by an order, from a row of items or steps."""
    counts = _counted(scheme, row)
    if order > 0:
        counts = joined([counts], powered(_matrix(scheme), order, joined))[0]
    return _by_letters(scheme, counts)


def letters_by_orders(scheme, row, order):
    """The list of such dicts, by all orders up to this one."""
    matrix = _matrix(scheme)
    counts = _counted(scheme, row)
    found = [_by_letters(scheme, counts)]
    for _ in range(order):
        counts = joined([counts], matrix)[0]
        found.append(_by_letters(scheme, counts))
    return found


def many_after(scheme, row, order):
    """How many steps come, by an order, from a row of items or steps."""
    if scheme.is_even:
        many = len(row)
        items = len(scheme[scheme.letters[0]].row)
        for _ in range(order):
            many = many * items
        return many
    counts = letters_after(scheme, row, order)
    return sum([counts[letter] for letter in counts])
