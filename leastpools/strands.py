"""The strands of a state, and which of them can go on [11].

A row is a tuple (name, position, strand) and stands for all jobs of the name
at the position. What is told of a row is a tuple (want, gives, inside): what
it wants, None if it waits at a both; what all those strands hold; the rows
right inside it. Amounts are vectors in the order of the pools.
"""

from leastpools.vectors import added, is_within, less_by, times, vector_of


def rows_of(state):
    """A dict from all rows of a state to what is told of them."""
    told = {}
    for (name, position), many in state.jobs_by_position().items():
        for strand, want, held, inside in state.program.code(name).strands(position):
            rows = [(name, position, part) for part in inside]
            told[(name, position, strand)] = (want, times(held, many), rows)
    return told


def can_go(told, row, free, gone):
    """Whether a row can go on with this free, if the rows that are gone have gone on."""
    want, _, inside = told[row]
    if want is None:
        return all([part in gone for part in inside])
    return is_within(want, free)


def freed(told, free):
    """The rows that can go on, in an order in which each can if those ahead have given back."""
    gone = {}
    waiting = list(told)
    many = -1
    while len(gone) > many:
        many = len(gone)
        for row in waiting:
            if can_go(told, row, free, gone):
                free = added(free, told[row][1])
                gone[row] = True
        waiting = [row for row in waiting if row not in gone]
    return list(gone)


def free_of(state):
    """What nobody holds, as a vector."""
    return vector_of(state.program.pools, state.free)


def left_by(state, told, rows):
    """The sizes less what some rows hold, as a vector."""
    rest = vector_of(state.program.pools, state.sizes)
    for row in rows:
        rest = less_by(rest, told[row][1])
    return rest
