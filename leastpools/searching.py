"""All states that can be reached with some sizes, and the moves between them."""

from leastpools.digits import Digits, leads_in
from leastpools.errors import TooMany

MOST_STATES = 2000


class Search:
    """The states that can be reached, the nearest ones first, by their indexes."""

    def __init__(self, net, sizes):
        self._digits = Digits(net, sizes)
        self._numbers = [self._digits.start]
        self._indexes = {self._digits.start: 0}
        # For each state the index of that from which it was met first, and the ways that are open in it.
        self._origins = [None]
        self._opened = []
        while len(self._opened) < len(self._numbers):
            self._go_on_from(len(self._opened))
            if len(self._numbers) > MOST_STATES:
                raise TooMany(MOST_STATES)

    def _go_on_from(self, index):
        number = self._numbers[index]
        ways = self._digits.open_ways(number)
        self._opened.append(ways)
        indexes = self._indexes
        for _, changes, _ in ways:
            for change in changes:
                later = number + change
                if later not in indexes:
                    indexes[later] = len(indexes)
                    self._numbers.append(later)
                    self._origins.append(index)

    def how_many(self):
        """How many states can be reached."""
        return len(self._numbers)

    def bare_states(self):
        """All bare states [nets.py]."""
        return [self._digits.bare_of(number) for number in self._numbers]

    def jobs_at(self, index):
        """The dict of the jobs in a state."""
        return self._digits.jobs_of(self._numbers[index])

    def used_at(self, index):
        """What all jobs hold in a state, as a vector."""
        return self._digits.used_in(self._numbers[index])

    def is_dead(self, index):
        """Whether a state has jobs, but no move that takes."""
        return index > 0 and all([leads_in(way) for way in self._opened[index]])

    def has_dead(self):
        """Whether some state has jobs, but no move that takes."""
        return any([self.is_dead(index) for index in range(len(self._numbers))])

    def edges(self):
        """For each state a list of tuples (peak, index of the state behind) of its moves, in order.

        The peak is None if a job enters.
        """
        return [self._edges_from(number, ways) for number, ways in zip(self._numbers, self._opened)]

    def _edges_from(self, number, ways):
        indexes = self._indexes
        edges = []
        for way in ways:
            peak = self._digits.peak_of(number, way)
            for change in way[1]:
                edges.append((peak, indexes[number + change]))
        return edges

    def moves_at(self, index):
        """The bare moves that are possible in a state, in the order of its edges."""
        return [move for _, _, moves in self._opened[index] for move in moves]

    def moves_to(self, index):
        """The bare moves of one of the shortest runs to a state."""
        moves = []
        while self._origins[index] is not None:
            ahead = self._origins[index]
            behind = [later for _, later in self._edges_from(self._numbers[ahead], self._opened[ahead])]
            moves.append(self.moves_at(ahead)[behind.index(index)])
            index = ahead
        return moves[::-1]
