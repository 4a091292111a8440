"""How much comes from each letter, order by order, without drawing it."""


def tallies(scheme, order, weights):
    """The list, by orders from 0 on, of dicts from letters to the weight of what comes from them.

    `weights` tells for each letter of the scheme the weight of a step with it.
    """
    rows = {letter: [item[0] for item in scheme[letter].row] for letter in scheme.letters}
    levels = [weights]
    for _ in range(order):
        last = levels[-1]
        levels.append({letter: sum([last[other] for other in rows[letter]]) for letter in rows})
    return levels


def step_tallies(scheme, order):
    """The tallies of all steps."""
    return tallies(scheme, order, {letter: 1 for letter in scheme.letters})


def letter_tallies(scheme, order, letter):
    """The tallies of the steps with one letter."""
    return tallies(scheme, order, {own: 1 if own == letter else 0 for own in scheme.letters})


def weight_of(row, level):
    """The weight of what comes from a row of items."""
    return sum([level[letter] for letter, turn in row])


def added_up(pairs):
    """The dict from what is counted to the sum of its numbers."""
    counts = {}
    for counted, many in pairs:
        counts[counted] = counts.get(counted, 0) + many
    return counts
