"""What strands give back in falls, and how far they can fall [17].

A fall is a tuple (need, given) of vectors. The falls of a strand depend on
nothing but the number of the wait at which it is.
"""

from leastpools.vectors import added, greater, is_within, less_by


class Falls:
    """The needs of the takes of written-out code [outlines.py], and the falls from each wait."""

    def __init__(self, outline, zero):
        self._zero = zero
        self._end = [(zero, zero)]
        self._wants = outline.wants()
        self._needs = [zero for _ in self._wants]
        self._falls = [[] for _ in self._wants]
        self._greatest = self._need_in(outline.nodes(), zero)
        self._ahead_of(outline.nodes(), self._end)

    @property
    def greatest_need(self):
        """The greatest need of the takes."""
        return self._greatest

    def from_wait(self, number):
        """The falls of a strand that is at a wait."""
        return list(self._falls[number])

    def _need_in(self, nodes, held):
        # The greatest amounts that a strand in the nodes holds and wants, if
        # this much is held ahead of them.
        greatest = self._zero
        for node in nodes:
            if node[0] == "give":
                held = less_by(held, node[1])
            else:
                greatest = greater(greatest, self._need_of(node, held))
        return greatest

    def _need_of(self, node, held):
        if node[0] == "take":
            _, number, nodes = node
            want = self._wants[number]
            self._needs[number] = greater(want, self._need_in(nodes, want))
            return added(held, self._needs[number])
        first, second = node[-2:]
        return greater(self._need_in(first, held), self._need_in(second, held))

    def _ahead_of(self, nodes, rows):
        # The falls of a strand that is ahead of the nodes, if these rows are
        # its falls behind them.
        for node in reversed(list(nodes)):
            if node[0] == "give":
                rows = [(self._zero, node[1]), *rows]
            elif node[0] == "take":
                rows = self._ahead_of_take(node, rows)
            elif node[0] == "either":
                rows = with_need(self._ahead_of(node[1], rows), self._ahead_of(node[2], rows)[0][0])
            else:
                rows = self._ahead_of_both(node, rows)
        return rows

    def _ahead_of_take(self, node, rows):
        _, number, nodes = node
        rest = self._wants[number]
        for one in nodes:
            if one[0] == "give":
                rest = less_by(rest, one[1])
        self._ahead_of(nodes, [(self._zero, rest), *rows])
        self._falls[number] = with_need(rows, self._needs[number])
        return self._falls[number]

    def _ahead_of_both(self, node, rows):
        _, number, first, second = node
        self._falls[number] = rows
        for nodes in (first, second):
            # A strand that begins in a both has nothing to give back but at its end.
            rows = with_need(rows, self._ahead_of(nodes, self._end)[0][0])
        return rows


def with_need(rows, need):
    """The falls, if the first one needs at least this much."""
    return [(greater(rows[0][0], need), rows[0][1]), *rows[1:]]


class Descent:
    """How far the strands of a state have fallen.

    Told is a dict from the strands, by some key, to tuples (falls, inside):
    the falls, and the keys of the strands right inside.
    """

    def __init__(self, told, free):
        self._told = told
        self._free = free
        self._fallen = {key: 0 for key in told}

    def knows(self, key, index):
        """Whether a strand has a fall of this index."""
        return key in self._told and 0 <= index < len(self._told[key][0])

    def index_of(self, key):
        """The index of the next fall of a strand."""
        return self._fallen[key]

    def is_over(self, key):
        """Whether a strand has done all of its falls."""
        return self._fallen[key] == len(self._told[key][0])

    def can_fall(self, key):
        """Whether a strand can do its next fall."""
        if self.is_over(key):
            return False
        rows, inside = self._told[key]
        index = self._fallen[key]
        if index == 0 and not all([self.is_over(part) for part in inside]):
            return False
        return is_within(rows[index][0], self._free)

    def fall(self, key):
        """Let a strand do its next fall, which it can, and return the index."""
        index = self._fallen[key]
        self._free = added(self._free, self._told[key][0][index][1])
        self._fallen[key] = index + 1
        return index

    def left(self):
        """The strands that are not over."""
        return [key for key in self._told if not self.is_over(key)]

    def fall_all(self):
        """Let all strands fall as far as they can; tuples (key, index) of the falls, in order."""
        done = []
        many = -1
        while len(done) > many:
            many = len(done)
            for key in list(self.left()):
                while self.can_fall(key):
                    done.append((key, self.fall(key)))
        return done
