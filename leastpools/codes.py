"""What can be told of the code of a job [8]."""

from leastpools.errors import InvalidPosition
from leastpools.falling import Falls
from leastpools.outlines import Outline, Ways, reachable
from leastpools.positions import MOST_BOTHS, inside_of, is_shaped, order_of, waiting_in
from leastpools.statements import boths_of, is_code, waits_of
from leastpools.vectors import added, greater, sizes_of

MOST_WAITS = 24
MOST_POSITIONS = 200


class Code:
    """Where the jobs of a name may rest, and what they hold and want there.

    Amounts are kept as vectors in the order of the pools, one row for each
    position, positions in their order. What is told of vectors is asked with
    positions of the code alone.
    """

    def __init__(self, pools, outline, first, found):
        self._pools = pools
        self._outline = outline
        self._wants = outline.wants()
        self._holds = outline.holds()
        self._positions = sorted(list(found), key=order_of)
        self._indexes = {position: at for at, position in enumerate(self._positions)}
        # None stands behind all positions here, so that its index is -1.
        places = [*self._positions, None]
        ranks = {None: -1, **self._indexes}
        self._first = in_order(first, ranks, places)
        ways = []
        for position in self._positions:
            rows = []
            for strand, number, later in found[position]:
                rows.append((strand, self._wants[number], in_order(later, ranks, places)))
            ways.append(rows)
        self._ways = ways
        zero = tuple([0 for _ in pools])
        self._held = [held_at(self._holds, position, zero) for position in self._positions]
        self._need = None
        self._greatest_want = None
        self._falls = None

    def _greatest_of(self, vectors):
        greatest = tuple([0 for _ in self._pools])
        for vector in vectors:
            greatest = greater(greatest, vector)
        return sizes_of(self._pools, greatest)

    def _all_needs(self):
        needs = []
        for held, rows in zip(self._held, self._ways):
            for _, want, _ in rows:
                held = added(held, want)
            needs.append(held)
        return needs

    @property
    def need(self):
        """The greatest amount of each pool that a job holds and wants at one position."""
        if self._need is None:
            self._need = self._greatest_of(self._all_needs())
        return self._need

    @property
    def greatest_want(self):
        """The greatest amount of each pool that one take wants."""
        if self._greatest_want is None:
            self._greatest_want = self._greatest_of([want for want in self._wants if want is not None])
        return self._greatest_want

    def first(self):
        """The positions at which a new job may rest, None if it may be over at once."""
        return list(self._first)

    def positions(self):
        """All positions that can be reached, in order."""
        return list(self._positions)

    def knows(self, thing):
        """Whether a value is one of the positions."""
        # The form comes first: True and 1.0 are equal to 1, a list is no key.
        return is_shaped(thing) and thing in self._indexes

    def check(self, position):
        """Raise InvalidPosition unless a value is one of the positions."""
        if not self.knows(position):
            raise InvalidPosition(position)

    def after(self, position, strand):
        """Where the job may rest when this strand has taken what it wants, None for over."""
        self.check(position)
        later = {one: positions for one, _, positions in self.ways_on(position)}
        return list(later[strand])

    def held_by(self, position):
        """What a job holds at a position."""
        self.check(position)
        return sizes_of(self._pools, self.vector_held(position))

    def takers(self, position):
        """Tuples (strand, want) of the strands that wait at takes."""
        self.check(position)
        return [(strand, sizes_of(self._pools, want)) for strand, want, _ in self.ways_on(position)]

    def vector_held(self, position):
        """What a job holds at a position, as a vector."""
        return self._held[self._indexes[position]]

    def ways_on(self, position):
        """Tuples (strand, want, later positions) of the strands that wait at takes."""
        return list(self._ways[self._indexes[position]])

    def index_of(self, position):
        """The index of a position in their order."""
        return self._indexes[position]

    def strands(self, position):
        """Tuples (strand, want, held, inside) of all strands that wait.

        Want is None at a both, and inside are the strands right inside it.
        """
        rows = []
        for strand, number in waiting_in(position):
            inside = inside_of(position, strand)
            rows.append((strand, self._wants[number], self._holds[number], inside))
        return rows

    def takes(self):
        """Tuples (want, held) of all takes, with what the strand that waits holds, as vectors."""
        return [(want, held) for want, held in zip(self._wants, self._holds) if want is not None]

    def _all_falls(self):
        # Most programs are never asked for their falls.
        if self._falls is None:
            self._falls = Falls(self._outline, tuple([0 for _ in self._pools]))
        return self._falls

    def falls_at(self, position):
        """Tuples (strand, falls) of all strands that wait; a fall is a tuple (need, given) of vectors."""
        told = self._all_falls()
        return [(strand, told.from_wait(number)) for strand, number in waiting_in(position)]

    def vector_needed(self):
        """The greatest need [17] of the takes, as a vector."""
        return self._all_falls().greatest_need


def in_order(positions, ranks, places):
    """Positions in their order, by what their indexes are among all places."""
    if len(positions) < 2:
        return positions
    return [places[at] for at in sorted([ranks[position] for position in positions])]


def held_at(holds, position, zero):
    """What a job holds at a position; holds tells it of the strand at each wait."""
    if position is None:
        return zero
    if not isinstance(position, tuple):
        return holds[position]
    number, first, second = position
    return added(holds[number], added(held_at(holds, first, zero), held_at(holds, second, zero)))


def want_of_step(code, position, strand, later):
    """What is wanted in a step from a position, as a vector; None if there is no such step."""
    if position is None:
        return None
    for one, want, positions in code.ways_on(position):
        if one == strand and later in positions:
            return want
    return None


class Codes:
    """The codes of the jobs of a program, one after another."""

    def __init__(self, pools):
        self._pools = pools
        self._codes = {}
        self._waits = {}
        self._boths = {}

    def learn(self, name, code):
        """The Code of a job behind those that are known, which may call it; None if the code is not valid."""
        if not is_code(code, self._pools, self._codes):
            return None
        waits = waits_of(code, self._waits)
        boths = boths_of(code, self._boths)
        if waits > MOST_WAITS or boths > MOST_BOTHS:
            return None
        outline = Outline(self._pools, self._codes, code)
        ways = Ways(outline.nodes())
        found = reachable(ways, MOST_POSITIONS)
        if len(found) > MOST_POSITIONS:
            return None
        self._codes[name] = code
        self._waits[name] = waits
        self._boths[name] = boths
        return Code(self._pools, outline, ways.first(), found)
