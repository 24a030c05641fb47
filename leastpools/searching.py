"""All states that can be reached with some sizes, and the moves between them."""

from leastpools.digits import Digits, leads_in
from leastpools.errors import TooMany

MOST_STATES = 2000


def all_found(digits):
    """A tuple of what is told of the states that can be reached, the nearest ones first.

    These are a dict from the numbers of the states to their indexes, a list of
    the indexes from which they were met first, and a list of the ways that are
    open in them.
    """
    numbers = [digits.start]
    indexes = {digits.start: 0}
    origins = [None]
    opened = []
    while len(opened) < len(numbers):
        index = len(opened)
        number = numbers[index]
        ways = digits.open_ways(number)
        opened.append(ways)
        for _, changes, _ in ways:
            for change in changes:
                later = number + change
                if later not in indexes:
                    indexes[later] = len(indexes)
                    numbers.append(later)
                    origins.append(index)
        if len(numbers) > MOST_STATES:
            raise TooMany(MOST_STATES)
    return (indexes, origins, opened)


class Search:
    """The states that can be reached, the nearest ones first, by their indexes."""

    def __init__(self, net, sizes):
        self._digits = Digits(net, sizes)
        indexes, origins, opened = all_found(self._digits)
        self._numbers = list(indexes)
        self._indexes = indexes
        self._origins = origins
        self._opened = opened

    def how_many(self):
        """How many states can be reached."""
        return len(self._numbers)

    def bare_states(self):
        """All bare states [nets.py]."""
        return [self._digits.bare_of(number) for number in self._numbers]

    def jobs_at(self, index):
        """The dict of the jobs in a state."""
        return self._digits.jobs_of(self._numbers[index])

    def used_at(self, index):
        """What all jobs hold in a state, as a vector."""
        return self._digits.used_in(self._numbers[index])

    def is_dead(self, index):
        """Whether a state has jobs, but no move that takes."""
        return index > 0 and all([leads_in(way) for way in self._opened[index]])

    def has_dead(self):
        """Whether some state has jobs, but no move that takes."""
        return any([self.is_dead(index) for index in range(len(self._numbers))])

    def edges(self):
        """For each state a list of tuples (peak, index of the state behind) of its moves, in order.

        The peak is None if a job enters.
        """
        return [self._edges_from(number, ways) for number, ways in zip(self._numbers, self._opened)]

    def _edges_from(self, number, ways):
        indexes = self._indexes
        edges = []
        for way in ways:
            peak = self._digits.peak_of(number, way)
            for change in way[1]:
                edges.append((peak, indexes[number + change]))
        return edges

    def moves_at(self, index):
        """The bare moves that are possible in a state, in the order of its edges."""
        return [move for _, _, moves in self._opened[index] for move in moves]

    def moves_to(self, index):
        """The bare moves of one of the shortest runs to a state."""
        moves = []
        while self._origins[index] is not None:
            ahead = self._origins[index]
            behind = [later for _, later in self._edges_from(self._numbers[ahead], self._opened[ahead])]
            moves.append(self.moves_at(ahead)[behind.index(index)])
            index = ahead
        return moves[::-1]
