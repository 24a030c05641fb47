"""Rings of jobs that give up and begin anew [23].

What is behind a job that gives up is reached by moves alone, too: it holds
nothing then, as if it had just come, and the others rest where they rested.
So all rings are between the states that can be reached.
"""

from leastpools.nets import Net
from leastpools.searching import Search
from leastpools.states import State, with_one_less, with_one_more
from leastpools.stuck import stuck_set
from leastpools.vectors import vector_of


def ways_to_begin(program, name):
    """The positions at which a new job rests, if it is not over at once."""
    return [position for position in program.code(name).first() if position is not None]


def repeats_of(state):
    """The moves by which a job with a stuck strand gives up, by jobs and later positions."""
    places = {row[:2]: True for row in stuck_set(state)}
    found = []
    for name, position in places:
        found.extend([("again", name, position, later) for later in ways_to_begin(state.program, name)])
    return found


def jobs_begun_anew(jobs, move):
    """The jobs behind such a move."""
    return with_one_more(with_one_less(jobs, move[1:3]), (move[1], move[3]))


class Rings:
    """All states that can be reached, with the moves of rings that begin there."""

    def __init__(self, program, sizes):
        self._program = program
        self._sizes = sizes
        self._net = Net(program)
        self._search = Search(self._net, vector_of(program.pools, sizes))
        self._bare_states = self._search.bare_states()
        indexes = {bare: index for index, bare in enumerate(self._bare_states)}
        self._leads = []
        for bare in self._bare_states:
            rows = self._stays_from(bare) + self._repeats_from(bare)
            self._leads.append([(move, indexes[later]) for move, later in rows])

    def _stays_from(self, bare):
        # Tuples (move, bare state behind it) of the moves that take, and the job stays.
        steps = self._net.steps(bare, vector_of(self._program.pools, self._sizes))
        kept = [(move, later) for move, peak, later in steps if peak is not None and move[2] is not None]
        return [(self._net.move_of(move), later) for move, later in kept]

    def _repeats_from(self, bare):
        jobs = self._net.jobs_of(bare)
        moves = repeats_of(State(self._program, self._sizes, jobs))
        return [(move, self._net.bare_of(jobs_begun_anew(jobs, move))) for move in moves]

    def _endless(self):
        # The indexes of the states from which such moves go on forever, in order.
        ahead = [[] for _ in self._leads]
        counts = [len(rows) for rows in self._leads]
        for index, rows in enumerate(self._leads):
            for _, later in rows:
                ahead[later].append(index)
        over = [index for index, many in enumerate(counts) if many == 0]
        while len(over) > 0:
            last = over.pop()
            for index in ahead[last]:
                counts[index] = counts[index] - 1
                if counts[index] == 0:
                    over.append(index)
        return [index for index, many in enumerate(counts) if many > 0]

    def first_ring(self):
        """A tuple (moves to a state, ring there), or None if there is no ring."""
        endless = {index: True for index in self._endless()}
        if len(endless) == 0:
            return None
        index = list(endless)[0]
        met = {}
        moves = []
        while index not in met:
            met[index] = len(moves)
            move, later = [row for row in self._leads[index] if row[1] in endless][0]
            moves.append(move)
            index = later
        return ([self._net.move_of(move) for move in self._search.moves_to(index)], moves[met[index]:])
