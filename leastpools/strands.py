"""The strands of a state, and which of them can go on [11].

A row is a tuple (name, position, strand) and stands for all jobs of the name
at the position. What is told of a row is a tuple (want, gives, inside): what
it wants, None if it waits at a both; what all those strands hold; the rows
right inside it. Amounts are vectors in the order of the pools.
"""

from leastpools.positions import is_shaped, is_strand
from leastpools.states import held_by_jobs
from leastpools.vectors import added, is_within, less_by, times, vector_of


def rows_by_place(program, places):
    """A dict from some places to lists of tuples (row, want, gives, inside), if one job is at each."""
    told = {}
    for name, position in places:
        rows = []
        for strand, want, held, inside in program.code(name).strands(position):
            rows.append(((name, position, strand), want, held, [(name, position, part) for part in inside]))
        told[(name, position)] = rows
    return told


def rows_of_one(program, places):
    """A dict from all rows of some places to what is told of them, if one job is at each."""
    told = {}
    for rows in list(rows_by_place(program, places).values()):
        for row, want, held, inside in rows:
            told[row] = (want, held, inside)
    return told


def rows_of_jobs(program, jobs):
    """A dict from all rows of some jobs to what is told of them."""
    by_place = rows_by_place(program, list(jobs))
    told = {}
    for place, many in jobs.items():
        for row, want, held, inside in by_place[place]:
            told[row] = (want, times(held, many), inside)
    return told


class KnownRows:
    """What is told of the rows of many states, worked out once for so many jobs at a place."""

    def __init__(self, program):
        self._program = program
        self._known = {}

    def _rows_for(self, place, many):
        if (place, many) not in self._known:
            self._known[(place, many)] = list(rows_of_jobs(self._program, {place: many}).items())
        return self._known[(place, many)]

    def told_of(self, jobs):
        """A dict from all rows of some jobs to what is told of them."""
        told = {}
        for place, many in jobs.items():
            for row, one in self._rows_for(place, many):
                told[row] = one
        return told


def rows_of(state):
    """A dict from all rows of a state to what is told of them."""
    return rows_of_jobs(state.program, state.jobs_by_position())


def is_row(told, thing):
    """Whether a value is one of the rows."""
    # The form comes first: True is equal to 1, and a list is no key.
    if not isinstance(thing, tuple) or len(thing) != 3 or not isinstance(thing[0], str):
        return False
    return is_shaped(thing[1]) and is_strand(thing[2]) and thing in told


def are_stuck(program, jobs, amounts):
    """Whether some jobs, which hold at most these amounts, have a stuck strand with them."""
    told = rows_of_jobs(program, jobs)
    free = less_by(amounts, held_by_jobs(program, jobs))
    return len(freed(told, free)) < len(told)


def can_go(one, free, gone):
    """Whether a row of which this is told can go on with this free, if the rows that are gone have gone on."""
    want, _, inside = one
    if want is None:
        return all([part in gone for part in inside])
    return is_within(want, free)


def freed(told, free):
    """The rows that can go on, in an order in which each can if those ahead have given back."""
    gone = {}
    waiting = list(told.items())
    many = -1
    while len(gone) > many and len(waiting) > 0:
        many = len(gone)
        left = []
        for row, one in waiting:
            if can_go(one, free, gone):
                free = added(free, one[1])
                gone[row] = True
            else:
                left.append((row, one))
        waiting = list(left)
    return list(gone)


def free_of(state):
    """What nobody holds, as a vector."""
    return vector_of(state.program.pools, state.free)


def left_by(state, told, rows):
    """The sizes less what some rows hold, as a vector."""
    rest = vector_of(state.program.pools, state.sizes)
    for row in rows:
        rest = less_by(rest, told[row][1])
    return rest


def gone_in_order(one, jobs, free, thing):
    """The rows of an order of jobs in which each can go on, as a dict; None if a value is no such order.

    What is told is that of one job at each place; the order may be of a part of the rows.
    """
    if not isinstance(thing, list):
        return None
    gone = {}
    for row in thing:
        if not is_row(one, row) or row[:2] not in jobs or row in gone:
            return None
        if not can_go(one[row], free, gone):
            return None
        gone[row] = True
        free = added(free, times(one[row][1], jobs[row[:2]]))
    return gone
