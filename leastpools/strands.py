"""The strands of a state, and which of them can go on [11].

A row is a tuple (name, position, strand) and stands for all jobs of the name
at the position. What is told of a row is a tuple (want, gives, inside): what
it wants, None if it waits at a both; what all those strands hold; the rows
right inside it. Amounts are vectors in the order of the pools.
"""

from leastpools.positions import is_shaped, is_strand
from leastpools.states import held_by_jobs
from leastpools.vectors import added, is_within, less_by, times, vector_of


def rows_by_place(program, places):
    """A dict from some places to lists of tuples (row, want, gives, inside), if one job is at each."""
    told = {}
    for name, position in places:
        rows = []
        for strand, want, held, inside in program.code(name).strands(position):
            rows.append(((name, position, strand), want, held, [(name, position, part) for part in inside]))
        told[(name, position)] = rows
    return told


def rows_of_one(program, places):
    """A dict from all rows of some places to what is told of them, if one job is at each."""
    told = {}
    for rows in list(rows_by_place(program, places).values()):
        for row, want, held, inside in rows:
            told[row] = (want, held, inside)
    return told


def rows_together(by_place, jobs):
    """A dict from all rows of some jobs to what is told of them, by what is told of one job at each place."""
    told = {}
    for place, many in jobs.items():
        for row, want, held, inside in by_place[place]:
            told[row] = (want, times(held, many), inside)
    return told


def rows_of_jobs(program, jobs):
    """A dict from all rows of some jobs to what is told of them."""
    return rows_together(rows_by_place(program, list(jobs)), jobs)


def rows_of(state):
    """A dict from all rows of a state to what is told of them."""
    return rows_of_jobs(state.program, state.jobs_by_position())


def is_row(told, thing):
    """Whether a value is one of the rows."""
    # The form comes first: True is equal to 1, and a list is no key.
    if not isinstance(thing, tuple) or len(thing) != 3 or not isinstance(thing[0], str):
        return False
    return is_shaped(thing[1]) and is_strand(thing[2]) and thing in told


def are_stuck(program, jobs, amounts):
    """Whether some jobs, which hold at most these amounts, have a stuck strand with them."""
    told = rows_of_jobs(program, jobs)
    free = less_by(amounts, held_by_jobs(program, jobs))
    return len(freed(told, free)) < len(told)


def can_go(told, row, free, gone):
    """Whether a row can go on with this free, if the rows that are gone have gone on."""
    want, _, inside = told[row]
    if want is None:
        return all([part in gone for part in inside])
    return is_within(want, free)


def freed(told, free):
    """The rows that can go on, in an order in which each can if those ahead have given back."""
    gone = {}
    waiting = list(told)
    many = -1
    while len(gone) > many:
        many = len(gone)
        for row in waiting:
            if can_go(told, row, free, gone):
                free = added(free, told[row][1])
                gone[row] = True
        waiting = [row for row in waiting if row not in gone]
    return list(gone)


def free_of(state):
    """What nobody holds, as a vector."""
    return vector_of(state.program.pools, state.free)


def left_by(state, told, rows):
    """The sizes less what some rows hold, as a vector."""
    rest = vector_of(state.program.pools, state.sizes)
    for row in rows:
        rest = less_by(rest, told[row][1])
    return rest


def gone_in_order(one, jobs, free, thing):
    """The rows of an order of jobs in which each can go on, as a dict; None if a value is no such order.

    What is told is that of one job at each place; the order may be of a part of the rows.
    """
    if not isinstance(thing, list):
        return None
    gone = {}
    for row in thing:
        if not is_row(one, row) or row[:2] not in jobs or row in gone or not can_go(one, row, free, gone):
            return None
        gone[row] = True
        free = added(free, times(one[row][1], jobs[row[:2]]))
    return gone
