"""The code of a job written out: its waits by their numbers, and what may come behind each."""

from leastpools.positions import takers_in
from leastpools.vectors import added, less_by


class Outline:
    """Code with calls and repeats written out, and its waits with numbers.

    It is a list of nodes: ("take", number, nodes), ("give", vector),
    ("either", nodes, nodes) and ("both", number, nodes, nodes).
    """

    def __init__(self, pools, codes, code):
        self._pools = pools
        self._codes = codes
        self._wants = []
        self._holds = []
        self._nodes = self._written(code, self._nothing())

    def nodes(self):
        """The code, written out."""
        return list(self._nodes)

    def wants(self):
        """What is wanted at each wait, None at a both."""
        return list(self._wants)

    def holds(self):
        """What the strand that waits holds at each wait."""
        return list(self._holds)

    def _nothing(self):
        return tuple([0 for _ in self._pools])

    def _vector(self, rows):
        table = {pool: number for pool, number in rows}
        return tuple([table.get(pool, 0) for pool in self._pools])

    def _wait(self, want, held):
        self._wants.append(want)
        self._holds.append(held)
        return len(self._wants) - 1

    def _written(self, code, held):
        nodes = []
        for statement in code:
            if statement[0] == "give":
                given = self._vector(((statement[1], statement[2]),))
                held = less_by(held, given)
                nodes.append(("give", given))
            else:
                nodes.extend(self._nodes_of(statement, held))
        return nodes

    def _nodes_of(self, statement, held):
        word = statement[0]
        if word == "take":
            return self._take(self._vector(statement[1]), statement[2], held)
        if word == "call":
            return self._take(self._vector(((statement[2], 1),)), self._codes[statement[1]], held)
        if word == "repeat":
            return self._repeated(statement[1], statement[2], held)
        if word == "both":
            return self._both(statement, held)
        if word == "either":
            return self._either(self._written(statement[1], held), self._written(statement[2], held))
        return []

    def _take(self, want, code, held):
        number = self._wait(want, held)
        return [("take", number, self._written(code, added(held, want)))]

    def _both(self, statement, held):
        number = self._wait(None, held)
        first = self._written(statement[1], self._nothing())
        second = self._written(statement[2], self._nothing())
        return [("both", number, first, second)]

    def _either(self, first, second):
        # What has no waits leaves no trace; without this, repeats of such
        # code inside one another would be written out thousands of times.
        if len(first) == 0 and len(second) == 0:
            return []
        return [("either", first, second)]

    def _repeated(self, number, code, held):
        nodes = self._written(code, held)
        if len(nodes) == 0:
            return []
        rest = []
        if number > 1:
            rest = self._repeated(number - 1, code, held)
        return self._either([], nodes + rest)


class Ways:
    """What may come next in written-out code: lists of positions, None for over."""

    def __init__(self, nodes):
        self._behind = {}
        self._first = self._outcomes(nodes, [None])

    def first(self):
        """Where a strand may rest that begins."""
        return list(self._first)

    def after(self, position, strand):
        """Where a job may rest when a strand that waits at a take has taken."""
        if len(strand) == 0:
            return list(self._behind[position])
        number, first, second = position
        if strand[0] == 0:
            rows = [(number, part, second) for part in self.after(first, strand[1:])]
        else:
            rows = [(number, first, part) for part in self.after(second, strand[1:])]
        waiting = [row for row in rows if not is_both_over(row)]
        if len(waiting) == len(rows):
            return waiting
        return united(waiting, self._behind[number])

    def _outcomes(self, nodes, rest):
        for node in reversed(list(nodes)):
            rest = self._outcomes_of(node, rest)
        return rest

    def _outcomes_of(self, node, rest):
        if node[0] == "give":
            return rest
        if node[0] == "either":
            return united(self._outcomes(node[1], rest), self._outcomes(node[2], rest))
        if node[0] == "take":
            self._behind[node[1]] = self._outcomes(node[2], rest)
            return [node[1]]
        self._behind[node[1]] = rest
        firsts = self._outcomes(node[2], [None])
        seconds = self._outcomes(node[3], [None])
        rows = [(node[1], first, second) for first in firsts for second in seconds]
        waiting = [row for row in rows if not is_both_over(row)]
        if len(waiting) == len(rows):
            return waiting
        return united(waiting, rest)


def is_both_over(row):
    """Whether both strands of a both are over."""
    return row[1] is None and row[2] is None


def united(one, other):
    """The positions of two lists, each once."""
    return list({position: True for position in one + other})


def reachable(ways, most):
    """A dict from all positions that can be reached to lists of tuples (strand, number, later positions).

    They are told of the strands that wait at takes. If there are more than
    most positions, some are left out, and nothing is told of some.
    """
    found = {position: [] for position in ways.first() if position is not None}
    waiting = list(found)
    while len(waiting) > 0 and len(found) <= most:
        position = waiting.pop()
        rows = [(strand, number, ways.after(position, strand)) for strand, number in takers_in(position)]
        found[position] = rows
        for _, _, later in rows:
            for one in later:
                if one is not None and one not in found:
                    found[one] = []
                    waiting.append(one)
    return found
