"""A bench: a scheme that is worked on, with pledges that each change must keep."""

from grownlines.base.rules import row_text
from grownlines.base.words import is_count
from grownlines.decide.found import Found
from grownlines.decide.likeness import are_alike, can_be_compared
from grownlines.decide.tables import MAX_TABLE
from grownlines.errors import InvalidNumber, InvalidOperation, NothingToUndo, Refused, TooMany
from grownlines.lines.grown import MAX_ORDER, check_scheme
from grownlines.lines.schemes import Scheme
from grownlines.visits.meetings import FAULTS, check_fault

MAX_PLEDGES = 10


def is_pledge(value):
    """Whether the value is a pledge."""
    if not isinstance(value, tuple) or len(value) not in (2, 3):
        return False
    if len(value) == 3:
        return value[0] == "late" and value[1] in FAULTS and is_count(value[2]) and value[2] <= MAX_ORDER
    return value[0] == "clear" and value[1] in FAULTS or value[0] == "draws" and isinstance(value[1], Scheme)


def _holds(pledge, scheme, orders):
    """Whether a pledge holds for a scheme with these first orders of the faults."""
    if pledge[0] == "clear":
        return orders[pledge[1]] is None
    if pledge[0] == "late":
        return orders[pledge[1]] is None or orders[pledge[1]] >= pledge[2]
    return scheme == pledge[1] or can_be_compared(scheme, pledge[1]) and are_alike(scheme, pledge[1])


def _first_orders(scheme):
    """The dict from the faults to the first orders of a scheme, None where it is clear."""
    found = Found(scheme, MAX_TABLE)
    return {fault: found.order_with(fault) for fault in FAULTS}


def _news(before, after):
    """The pairs of a fault and of whether the scheme is clear of it, where first orders tell that this is new."""
    return tuple([(fault, after[fault] is None) for fault in FAULTS
                  if (after[fault] is None) != (before[fault] is None)])


def _is_clear_if_known(scheme, fault):
    """Whether a scheme is clear of a fault; False if it has too many stands."""
    try:
        return Found(scheme, MAX_TABLE, fault).order_with(fault) is None
    except TooMany:
        return False


def _exchanged_rows(row):
    """The rows in which two neighbouring items that differ have changed places."""
    return [row[:at] + (row[at + 1], row[at]) + row[at + 2:] for at in range(len(row) - 1) if row[at] != row[at + 1]]


class Bench:
    """A scheme that is worked on."""

    def __init__(self, scheme):
        check_scheme(scheme)
        self.scheme = scheme
        self.pledges = ()
        self._orders = _first_orders(scheme)
        # What can be taken back, and what can be done again, the next one first.
        self._past = ()
        self._future = ()

    def draw(self, line):
        """Work on the scheme with this line."""
        return self._change_scheme(self.scheme.with_line(line))

    def erase(self, letter):
        """Work on the scheme without a letter."""
        return self._change_scheme(self.scheme.without(letter))

    def _change_scheme(self, scheme):
        orders = self._orders if scheme == self.scheme else _first_orders(scheme)
        for pledge in self.pledges:
            if not _holds(pledge, scheme, orders):
                raise Refused(pledge)
        return self._change(scheme, orders, self.pledges)

    def _change(self, scheme, orders, pledges):
        """Make a change that can be taken back; the news."""
        self._past = self._past + ((self.scheme, self._orders, self.pledges),)
        self._future = ()
        return self._put((scheme, orders, pledges))

    def _put(self, state):
        """Work on what is told by a triple of a scheme, its first orders and pledges; the news."""
        before = self._orders
        self.scheme, self._orders, self.pledges = state
        return _news(before, self._orders)

    def demand(self, pledge):
        """Let each change keep a pledge from now on."""
        if not is_pledge(pledge) or pledge in self.pledges:
            raise InvalidOperation("a pledge that is not there is asked for")
        if len(self.pledges) >= MAX_PLEDGES:
            raise TooMany(MAX_PLEDGES)
        if not _holds(pledge, self.scheme, self._orders):
            raise Refused(pledge)
        return self._change(self.scheme, self._orders, self.pledges + (pledge,))

    def waive(self, pledge):
        """Let changes not keep a pledge any longer."""
        if not is_pledge(pledge) or pledge not in self.pledges:
            raise InvalidOperation("a pledge that is there is asked for")
        left = tuple([own for own in self.pledges if own != pledge])
        return self._change(self.scheme, self._orders, left)

    def undo(self, *, many=1):
        """Take back so many changes."""
        self._check_many(many, len(self._past))
        return self._go(len(self._past) - many)

    def redo(self, *, many=1):
        """Do so many changes again."""
        self._check_many(many, len(self._future))
        return self._go(len(self._past) + many)

    def _check_many(self, many, most):
        if not is_count(many):
            raise InvalidNumber(many)
        if many > most:
            raise NothingToUndo(many)

    def _go(self, at):
        """Work on what was or will be there at a place among all changes."""
        states = self._past + ((self.scheme, self._orders, self.pledges),) + self._future
        self._past = states[:at]
        self._future = states[at + 1:]
        return self._put(states[at])

    def first_order(self, fault):
        """The first order of the scheme for a fault, None if it is clear of it."""
        check_fault(fault)
        return self._orders[fault]

    def repairs(self, fault):
        """The ascending tuple of the lines that make the scheme clear of a fault by one exchange of neighbours."""
        check_fault(fault)
        lines = [f"rule {letter} {row_text(row)}" for letter in self.scheme.letters
                 for row in _exchanged_rows(self.scheme[letter].row)]
        return tuple(sorted([line for line in lines if _is_clear_if_known(self.scheme.with_line(line), fault)]))

    def trial(self):
        """What gives the bench to a block, behind which the bench is as before."""
        return Trial(self)

    def during(self, call):
        """What a function of the bench returns in such a block."""
        with self.trial() as same:
            return call(same)

    def twin(self):
        """An independent copy."""
        same = Bench(self.scheme)
        same.pledges = self.pledges
        same._past = self._past
        same._future = self._future
        return same

    def __contains__(self, value):
        return value in self.scheme.lines or is_pledge(value) and value in self.pledges

    def __len__(self):
        return len(self.scheme.lines)

    def __iter__(self):
        return iter(self.scheme.lines)

    def __eq__(self, other):
        return isinstance(other, Bench) and self.scheme == other.scheme and self.pledges == other.pledges

    def __str__(self):
        return f"bench with {len(self.scheme.lines)} lines, {len(self.pledges)} pledges"


class Kept:
    """What a bench has, and what was kept before."""

    def __init__(self, bench, before):
        self.scheme = bench.scheme
        self.pledges = bench.pledges
        self.orders = bench._orders
        self.past = bench._past
        self.future = bench._future
        self.before = before


class Trial:
    """Gives its bench to a block, and puts back what the bench had before."""

    def __init__(self, bench):
        self.own = bench
        self.kept = None

    def __enter__(self):
        # One trial may be begun again inside its own block.
        self.kept = Kept(self.own, self.kept)
        return self.own

    def __exit__(self, kind, value, trace):
        self.own.scheme = self.kept.scheme
        self.own.pledges = self.kept.pledges
        self.own._orders = self.kept.orders
        self.own._past = self.kept.past
        self.own._future = self.kept.future
        self.kept = self.kept.before
