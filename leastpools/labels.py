"""The least peaks [28] of the runs to all states, found in one search.

A label is a tuple (index of a state, peak, label ahead, index of an edge): a
run to the state with this peak, which is the run of the label ahead and the
move of one more edge.
"""

from leastpools.searching import Search
from leastpools.vectors import greater, is_within


class Labels:
    """The bare states [nets.py] that are reached with some sizes, and the least peaks of the runs to each."""

    def __init__(self, net, sizes):
        self._search = Search(net, sizes)
        self._bare_states = self._search.bare_states()
        self._edges = self._search.edges()
        self._indexes = {bare: index for index, bare in enumerate(self._bare_states)}
        self._labels = []
        self._least = [[] for _ in self._edges]
        # Labels by the sums of their peaks: what has a greater sum is at most as good.
        self._waiting = [[] for _ in range(sum(list(sizes)) + 1)]
        self._wait((0, tuple([0 for _ in sizes]), None, None))
        for total in range(len(self._waiting)):
            self._go_through(total)

    def _wait(self, label):
        self._waiting[sum(list(label[1]))].append(label)

    def _go_through(self, total):
        at = 0
        while at < len(self._waiting[total]):
            label = self._waiting[total][at]
            if not self._is_beaten(label[0], label[1]):
                self._keep(label)
            at = at + 1

    def _is_beaten(self, index, vector):
        return any([is_within(self._labels[number][1], vector) for number in self._least[index]])

    def _keep(self, label):
        index, vector, _, _ = label
        number = len(self._labels)
        self._labels.append(label)
        self._least[index].append(number)
        for edge, (peak, later) in enumerate(list(self._edges[index])):
            most = vector
            if peak is not None:
                most = greater(vector, peak)
            if not self._is_beaten(later, most):
                self._wait((later, most, number, edge))

    def bare_states(self):
        """All bare states, the nearest ones first."""
        return list(self._bare_states)

    def edges(self):
        """For each state a list of tuples (peak, index of the state behind) of its moves."""
        return [list(row) for row in self._edges]

    def _numbers_of(self, bare):
        # The labels of a bare state by their peaks.
        if bare not in self._indexes:
            return {}
        return {self._labels[number][1]: number for number in self._least[self._indexes[bare]]}

    def peaks_to(self, bare):
        """The least peaks of the runs to a bare state, in ascending order."""
        return sorted(list(self._numbers_of(bare)))

    def moves_to(self, bare, vector):
        """The bare moves of a run with one of these peaks."""
        moves = []
        _, _, number, edge = self._labels[self._numbers_of(bare)[vector]]
        while number is not None:
            index, _, ahead, next_edge = self._labels[number]
            moves.append(self._search.moves_at(index)[edge])
            number, edge = ahead, next_edge
        return moves[::-1]
