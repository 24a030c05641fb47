"""All states that are reached with care [18], and the grants that are held back there."""

from leastpools.errors import TooMany
from leastpools.falling import Descent
from leastpools.searching import MOST_STATES
from leastpools.vectors import less_by, times


class Guard:
    """Which bare states [nets.py] are safe [17] with some sizes, each worked out once."""

    def __init__(self, net, sizes):
        self._net = net
        self._sizes = sizes
        self._known = {}

    def lets(self, bare):
        """Whether a bare state is safe."""
        if bare not in self._known:
            descent = Descent(self._falls_in(bare), less_by(self._sizes, self._net.held_in(bare)))
            descent.fall_all()
            self._known[bare] = len(descent.left()) == 0
        return self._known[bare]

    def _falls_in(self, bare):
        told = {}
        for place in bare:
            if (place, ()) not in told:
                many = bare.count(place)
                for strand, rows, inside in self._net.falls_at(place):
                    together = [(need, times(given, many)) for need, given in rows]
                    told[(place, strand)] = (together, [(place, part) for part in inside])
        return told


class CarefulSearch:
    """The bare states that are reached by careful moves, the nearest ones first."""

    def __init__(self, net, sizes):
        self._net = net
        self._sizes = sizes
        self._guard = Guard(net, sizes)
        self._states = [()]
        self._met = {(): True}
        self._price = 0
        index = 0
        while index < len(self._states):
            self._go_on_from(self._states[index])
            index = index + 1

    def bare_states(self):
        """All bare states."""
        return list(self._states)

    def price(self):
        """How many grants are held back in these states."""
        return self._price

    def _go_on_from(self, bare):
        held_back = 0
        let = []
        for behind in self._behind_grants(bare):
            if all([self._guard.lets(later) for later in behind]):
                let.extend(behind)
            else:
                held_back = held_back + 1
        self._price = self._price + held_back
        for later in let:
            self._meet(later)

    def _behind_grants(self, bare):
        # For each grant the bare states behind its moves.
        grants = {}
        for move, _, later in self._net.steps(bare, self._sizes):
            grant = self._net.grant_of(move)
            grants.setdefault(grant, []).append(later)
        return list(grants.values())

    def _meet(self, bare):
        if bare in self._met:
            return
        if len(self._states) == MOST_STATES:
            raise TooMany(MOST_STATES)
        self._met[bare] = True
        self._states.append(bare)
