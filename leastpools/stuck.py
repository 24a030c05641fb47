"""Who is stuck in a state [11]."""

from leastpools.errors import InvalidState
from leastpools.states import State
from leastpools.strands import free_of, freed, gone_in_order, is_row, left_by, rows_of, rows_of_one
from leastpools.vectors import is_within, sizes_of


def check_state(state):
    """Raise InvalidState unless a value is a State."""
    if not isinstance(state, State):
        raise InvalidState(state)


def freeing_order(state):
    """The rows that can go on, in an order in which each can if those ahead have given back."""
    check_state(state)
    return freed(rows_of(state), free_of(state))


def stuck_set(state):
    """The rows of the stuck set."""
    check_state(state)
    told = rows_of(state)
    gone = {row: True for row in freed(told, free_of(state))}
    return [row for row in told if row not in gone]


def is_stuck(state):
    """Whether there is a stuck strand."""
    return len(stuck_set(state)) > 0


def lacking(state):
    """A dict from the stuck rows that wait at takes to the Sizes that they lack."""
    rows = stuck_set(state)
    told = rows_of(state)
    rest = left_by(state, told, rows)
    return {row: lack_of(state, told[row][0], rest) for row in rows if told[row][0] is not None}


def lack_of(state, want, rest):
    """By how much what is wanted is more than the rest."""
    return sizes_of(state.program.pools, [max(0, amount - left) for amount, left in zip(want, rest)])


def are_rows(told, thing):
    """Whether a value is a list of different rows."""
    if not isinstance(thing, list) or not all([is_row(told, row) for row in thing]):
        return False
    return len({row: True for row in thing}) == len(thing)


def lets_stuck(state, thing):
    """Whether a value shows that the strands of some rows never go on."""
    check_state(state)
    told = rows_of(state)
    if not are_rows(told, thing) or len(thing) == 0:
        return False
    rest = left_by(state, told, thing)
    return all([stays(told, row, rest, thing) for row in thing])


def stays(told, row, rest, rows):
    """Whether a row cannot go on, if only some rows do not give back and this is the rest."""
    want, _, inside = told[row]
    if want is None:
        return any([part in rows for part in inside])
    return not is_within(want, rest)


def lets_order(state, thing):
    """Whether a value is an order of all rows in which each can go on."""
    check_state(state)
    jobs = state.jobs_by_position()
    one = rows_of_one(state.program, list(jobs))
    gone = gone_in_order(one, jobs, free_of(state), thing)
    return gone is not None and len(gone) == len(one)
