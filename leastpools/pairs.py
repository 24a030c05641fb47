"""A right runtime and one with a fault [32], side by side.

A pair is a tuple (bare state [nets.py], amounts, others): amounts is the
vector of what is held by nobody, or taken for free too much, and others the
tuples (name, amount) of such pools that the program does not have. A request
is answered by whether it is done.
"""

from leastpools.errors import TooMany
from leastpools.grids import caps
from leastpools.guarding import Guard
from leastpools.nets import Net, with_place
from leastpools.searching import MOST_STATES
from leastpools.vectors import added, is_within, less_by, lesser, times, vector_of

# These stand beside a plain runtime, all others beside a careful one.
PLAIN_FAULTS = ("over", "blind", "forget", "double")


def has_first(want, free):
    """Whether of what is wanted the first pool is free."""
    for amount, left in zip(want, free):
        if amount > 0:
            return amount <= left
    return True


class Pairs:
    """What is answered to the requests in the pairs for a program, sizes and a fault."""

    def __init__(self, program, sizes, word):
        self._program = program
        self._word = word
        self._net = Net(program)
        self._sizes = vector_of(program.pools, sizes)
        self._caps = vector_of(program.pools, caps(program))
        self._zero = tuple([0 for _ in program.pools])
        self._limits = [program.limit(name) for name in program.names()]
        self._needs = [vector_of(program.pools, program.code(name).need) for name in program.names()]
        self._guard = Guard(self._net, self._sizes)

    def first(self):
        """The pair without jobs and with nothing."""
        return ((), self._zero, ())

    def pair_of(self, jobs, amounts):
        """The pair with jobs that may be there, and with amounts as Sizes."""
        bare = self._net.bare_of(jobs)
        vector = vector_of(self._program.pools, amounts)
        if self._word == "forget":
            names = [name for name in amounts.names() if name not in self._program.pools]
            return (bare, vector, tuple([(name, amounts[name]) for name in names]))
        if self._word == "double":
            return (bare, lesser(vector, self._caps), ())
        return (bare, self._zero, ())

    def row_of(self, pair):
        """The tuple (jobs, amounts) of two dicts for a pair."""
        bare, vector, others = pair
        amounts = {name: amount for name, amount in others}
        for pool, amount in zip(self._program.pools, vector):
            if amount > 0:
                amounts[pool] = amount
        return (self._net.jobs_of(bare), amounts)

    def request_of(self, move):
        """The request that a bare move is; one without a strand is a fail."""
        place, strand, _ = move
        if strand is None:
            _, name, position = self._net.move_of((None, (), place))
            return ("fail", name, position)
        return self._net.move_of(move)

    def answers(self, pair):
        """Tuples (bare move, right answer, answer with the fault, pair behind it) of all requests, in order."""
        return self._asked_to_enter(pair) + self._asked_to_take(pair) + self._asked_to_fail(pair)

    def _asked_to_enter(self, pair):
        bare, vector, others = pair
        counts = self._net.counts_of(bare)
        found = []
        for owner, places in enumerate(self._net.ways_in()):
            plain = counts[owner] < self._limits[owner]
            behind = [with_place(bare, place) for place in places]
            right = self._is_let_through(plain, behind)
            for place, later in zip(places, behind):
                wrong = self._word == "over" or self._is_let_wrongly(plain, later)
                found.append(((None, (), place), right, wrong, (later, vector, others)))
        return found

    def _asked_to_take(self, pair):
        bare, vector, others = pair
        free = less_by(self._sizes, self._net.held_in(bare))
        found = []
        for place, rest in rests_of(bare):
            for strand, want, ways in self._net.takes_at(place):
                behind = [with_place(rest, way) for way in ways]
                right = self._is_let_through(is_within(want, free), behind)
                loose = self._is_free(want, free, vector)
                for way, later in zip(ways, behind):
                    wrong = self._is_let_wrongly(loose, later)
                    found.append(((place, strand, way), right, wrong, (later, vector, others)))
        return found

    def _asked_to_fail(self, pair):
        bare, vector, others = pair
        found = []
        for place, rest in rests_of(bare):
            amounts = self._zero
            if self._word == "forget":
                amounts = added(vector, self._net.held_at(place))
            if self._word == "double":
                amounts = lesser(added(vector, self._net.held_at(place)), self._caps)
            found.append(((place, None, None), True, True, (rest, amounts, others)))
        return found

    def _is_free(self, want, free, vector):
        # Whether all that is wanted is free for the runtime with the fault.
        if self._word == "blind":
            return has_first(want, free)
        if self._word == "forget":
            free = [max(0, left - lost) for left, lost in zip(free, vector)]
        if self._word == "double":
            free = added(free, vector)
        return is_within(want, free)

    def _is_let_through(self, plain, behind):
        # Whether the right runtime does what is possible, if its grant leads to these bare states.
        if not plain or self._word in PLAIN_FAULTS:
            return plain
        return all([self._guard.lets(later) for later in behind])

    def _is_let_wrongly(self, plain, later):
        # Whether the runtime with the fault does what is possible and leads to a bare state.
        if plain and self._word == "hasty":
            return self._guard.lets(later)
        if plain and self._word == "timid":
            return is_within(self._needs_in(later), self._sizes)
        return plain

    def _needs_in(self, bare):
        total = self._zero
        for need, many in zip(self._needs, self._net.counts_of(bare)):
            total = added(total, times(need, many))
        return total


def rests_of(bare):
    """Tuples (place, bare state without a job there) for the places in a bare state, each once."""
    found = []
    for at, place in enumerate(bare):
        if at == 0 or bare[at - 1] != place:
            found.append((place, bare[:at] + bare[at + 1:]))
    return found


class PairSearch:
    """The pairs that can be reached by requests that are answered alike, the nearest ones first."""

    def __init__(self, program, sizes, word):
        self._pairs = Pairs(program, sizes, word)
        self._found = [self._pairs.first()]
        self._origins = {self._found[0]: None}
        self._first_other = None
        index = 0
        while index < len(self._found):
            self._go_on_from(self._found[index])
            index = index + 1

    def _go_on_from(self, pair):
        for move, right, wrong, later in list(self._pairs.answers(pair)):
            if right != wrong and self._first_other is None:
                self._first_other = (pair, move)
            if right and wrong and later not in self._origins:
                self._meet(later, (pair, move))

    def _meet(self, pair, origin):
        if len(self._found) == MOST_STATES:
            raise TooMany(MOST_STATES)
        self._origins[pair] = origin
        self._found.append(pair)

    def rows(self):
        """Tuples (jobs, amounts) of all pairs."""
        return [self._pairs.row_of(pair) for pair in self._found]

    def seen_by(self):
        """One of the shortest lists of requests of which just the last one is answered otherwise, or None."""
        origin = self._first_other
        if origin is None:
            return None
        requests = []
        while origin is not None:
            pair, move = origin
            requests.append(self._pairs.request_of(move))
            origin = self._origins[pair]
        return requests[::-1]
