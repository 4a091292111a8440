"""The sets that follow one another when all of a set is replaced by what comes from it, until they repeat.

The members are places of a list of rows; a row tells what comes from its place, by places. A set is told by an
integer with a bit for each member.
"""


def _changed(rows, sources, added, removed):
    """What comes from other many members than before, if these members are added and removed.

    `sources` tells for each member from how many it comes, and is changed.
    """
    touched = {}
    for member in added:
        for own in rows[member]:
            sources[own] = sources[own] + 1
            touched[own] = True
    for member in removed:
        for own in rows[member]:
            sources[own] = sources[own] - 1
            touched[own] = True
    return list(touched)


def sets_until(rows, firsts, most):
    """The list of the sets of all orders until they repeat, and the order from which they do.

    None if this takes more than so many orders.
    """
    sources = [0] * len(rows)
    there = [False] * len(rows)
    added = list({member: True for member in firsts})
    removed = []
    mask = 0
    sets = []
    orders = {}
    # Only what comes or goes from one order to the next is followed.
    for order in range(most + 1):
        for member in added + removed:
            there[member] = not there[member]
            mask = mask ^ (1 << member)
        if mask in orders:
            return (sets, orders[mask])
        orders[mask] = order
        sets.append(mask)
        touched = _changed(rows, sources, added, removed)
        if order == 0:
            touched = list({member: True for member in touched + added})
        added = [member for member in touched if sources[member] > 0 and not there[member]]
        removed = [member for member in touched if sources[member] == 0 and there[member]]
    return None


def members_of(mask):
    """The ascending list of the members of a set."""
    return [member for member, bit in enumerate(f"{mask:b}"[::-1]) if bit == "1"]


def set_of(members):
    """The set of these members."""
    mask = 0
    for member in members:
        mask = mask | (1 << member)
    return mask
