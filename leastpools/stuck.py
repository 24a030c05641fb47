"""Who is stuck in a state [11]."""

from leastpools.errors import InvalidState
from leastpools.positions import is_shaped, is_strand
from leastpools.states import State
from leastpools.strands import can_go, free_of, freed, left_by, rows_of
from leastpools.vectors import added, is_within, sizes_of


def check_state(state):
    """Raise InvalidState unless a value is a State."""
    if not isinstance(state, State):
        raise InvalidState(state)


def freeing_order(state):
    """The rows that can go on, in an order in which each can if those ahead have given back."""
    check_state(state)
    return freed(rows_of(state), free_of(state))


def stuck_set(state):
    """The rows of the stuck set."""
    check_state(state)
    told = rows_of(state)
    gone = {row: True for row in freed(told, free_of(state))}
    return [row for row in told if row not in gone]


def is_stuck(state):
    """Whether there is a stuck strand."""
    return len(stuck_set(state)) > 0


def lacking(state):
    """A dict from the stuck rows that wait at takes to the Sizes that they lack."""
    rows = stuck_set(state)
    told = rows_of(state)
    rest = left_by(state, told, rows)
    return {row: lack_of(state, told[row][0], rest) for row in rows if told[row][0] is not None}


def lack_of(state, want, rest):
    """By how much what is wanted is more than the rest."""
    return sizes_of(state.program.pools, [max(0, amount - left) for amount, left in zip(want, rest)])


def are_rows(told, thing):
    """Whether a value is a list of different rows."""
    if not isinstance(thing, list) or not all([is_row(told, row) for row in thing]):
        return False
    return len({row: True for row in thing}) == len(thing)


def is_row(told, thing):
    """Whether a value is one of the rows."""
    # The form comes first: True is equal to 1, and a list is no key.
    if not isinstance(thing, tuple) or len(thing) != 3 or not isinstance(thing[0], str):
        return False
    return is_shaped(thing[1]) and is_strand(thing[2]) and thing in told


def lets_stuck(state, thing):
    """Whether a value shows that the strands of some rows never go on."""
    check_state(state)
    told = rows_of(state)
    if not are_rows(told, thing) or len(thing) == 0:
        return False
    rest = left_by(state, told, thing)
    return all([stays(told, row, rest, thing) for row in thing])


def stays(told, row, rest, rows):
    """Whether a row cannot go on, if only some rows do not give back and this is the rest."""
    want, _, inside = told[row]
    if want is None:
        return any([part in rows for part in inside])
    return not is_within(want, rest)


def lets_order(state, thing):
    """Whether a value is an order of all rows in which each can go on."""
    check_state(state)
    told = rows_of(state)
    if not are_rows(told, thing) or len(thing) != len(told):
        return False
    free = free_of(state)
    gone = {}
    for row in thing:
        if not can_go(told, row, free, gone):
            return False
        free = added(free, told[row][1])
        gone[row] = True
    return True
