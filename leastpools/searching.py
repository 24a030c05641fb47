"""All states that can be reached with some sizes, and the moves between them."""

from leastpools.errors import TooMany

MOST_STATES = 2000


class Search:
    """The bare states [nets.py] that can be reached, the nearest ones first."""

    def __init__(self, net, sizes):
        self._net = net
        self._sizes = sizes
        self._states = [()]
        self._indexes = {(): 0}
        self._origins = [None]
        self._edges = []
        while len(self._edges) < len(self._states):
            self._edges.append(self._edges_from(len(self._edges)))

    def _edges_from(self, index):
        edges = []
        steps = self._net.steps(self._states[index], self._sizes)
        for move, peak, bare in steps:
            if bare not in self._indexes:
                self._meet(bare, (index, move))
            edges.append((peak, self._indexes[bare]))
        return edges

    def _meet(self, bare, origin):
        if len(self._states) == MOST_STATES:
            raise TooMany(MOST_STATES)
        self._indexes[bare] = len(self._states)
        self._states.append(bare)
        self._origins.append(origin)

    def bare_states(self):
        """All bare states."""
        return list(self._states)

    def how_many(self):
        """How many bare states can be reached."""
        return len(self._states)

    def edges(self):
        """For each state a list of tuples (peak, index of the state behind) of its moves."""
        return [list(row) for row in self._edges]

    def is_dead(self, index):
        """Whether a state has jobs, but no move that takes."""
        return index > 0 and all([peak is None for peak, _ in self._edges[index]])

    def moves_to(self, index):
        """The bare moves of one of the shortest runs to a state."""
        moves = []
        while self._origins[index] is not None:
            index, move = self._origins[index]
            moves.append(move)
        return moves[::-1]
