"""Rings of jobs that give up and begin anew [23].

What is behind a job that gives up is reached by moves alone, too: it holds
nothing then, as if it had just come, and the others rest where they rested.
So all rings are between the states that can be reached.
"""

from leastpools.nets import Net
from leastpools.searching import Search
from leastpools.states import with_one_less, with_one_more
from leastpools.strands import KnownRows, freed
from leastpools.stuck import stuck_set
from leastpools.vectors import less_by, vector_of


def ways_to_begin(program, name):
    """The positions at which a new job rests, if it is not over at once."""
    return [position for position in program.code(name).first() if position is not None]


def repeats_at(program, rows):
    """The moves by which the jobs of some stuck rows give up, by jobs and later positions."""
    places = {row[:2]: True for row in rows}
    found = []
    for name, position in places:
        found.extend([("again", name, position, later) for later in ways_to_begin(program, name)])
    return found


def repeats_of(state):
    """The moves by which a job with a stuck strand gives up, by jobs and later positions."""
    return repeats_at(state.program, stuck_set(state))


def jobs_begun_anew(jobs, move):
    """The jobs behind such a move."""
    return with_one_more(with_one_less(jobs, move[1:3]), (move[1], move[3]))


class Rings:
    """All states that can be reached, with the moves of rings that begin there."""

    def __init__(self, program, sizes):
        self._program = program
        self._amounts = vector_of(program.pools, sizes)
        self._net = Net(program)
        self._search = Search(self._net, self._amounts)

    def _all_leads(self):
        # For each state tuples (move, index of the state behind it); moves that take are bare ones.
        bare_states = self._search.bare_states()
        indexes = {bare: index for index, bare in enumerate(bare_states)}
        known = KnownRows(self._program)
        leads = []
        for index, edges in enumerate(self._search.edges()):
            stays = []
            for move, (peak, later) in zip(self._search.moves_at(index), edges):
                if peak is not None and move[2] is not None:
                    stays.append((move, later))
            jobs = self._search.jobs_at(index)
            moves = repeats_at(self._program, self._stuck_rows(known.told_of(jobs), index))
            repeats = [(move, self._net.bare_of(jobs_begun_anew(jobs, move))) for move in moves]
            leads.append(stays + [(move, indexes[bare]) for move, bare in repeats])
        return leads

    def _stuck_rows(self, told, index):
        gone = freed(told, less_by(self._amounts, self._search.used_at(index)))
        if len(gone) == len(told):
            return []
        moved = {row: True for row in gone}
        return [row for row in told if row not in moved]

    def _endless(self, leads):
        # The indexes of the states from which such moves go on forever, in order.
        ahead = [[] for _ in leads]
        counts = [len(rows) for rows in leads]
        for index, rows in enumerate(leads):
            for _, later in rows:
                ahead[later].append(index)
        over = [index for index, many in enumerate(counts) if many == 0]
        while len(over) > 0:
            last = over.pop()
            for index in ahead[last]:
                counts[index] = counts[index] - 1
                if counts[index] == 0:
                    over.append(index)
        return [index for index, many in enumerate(counts) if many > 0]

    def _as_told(self, move):
        if move[0] == "again":
            return move
        return self._net.move_of(move)

    def first_ring(self):
        """A tuple (moves to a state, ring there), or None if there is no ring."""
        # With good sizes there is none.
        if not self._search.has_dead():
            return None
        leads = self._all_leads()
        endless = {index: True for index in self._endless(leads)}
        if len(endless) == 0:
            return None
        index = list(endless)[0]
        met = {}
        moves = []
        while index not in met:
            met[index] = len(moves)
            move, later = [row for row in leads[index] if row[1] in endless][0]
            moves.append(self._as_told(move))
            index = later
        return ([self._net.move_of(move) for move in self._search.moves_to(index)], moves[met[index]:])
