"""What can be told of the code of a job [8]."""

from leastpools.errors import InvalidPosition
from leastpools.falling import Falls
from leastpools.outlines import Outline, Ways, reachable
from leastpools.positions import MOST_BOTHS, inside_of, is_shaped, order_of, takers_in, waiting_in
from leastpools.statements import boths_of, is_code, waits_of
from leastpools.vectors import added, greater, sizes_of

MOST_WAITS = 24
MOST_POSITIONS = 200


class Code:
    """Where the jobs of a name may rest, and what they hold and want there.

    Amounts are kept as vectors in the order of the pools, one row for each
    position, positions in their order.
    """

    def __init__(self, pools, outline, ways, positions):
        self._pools = pools
        self._wants = outline.wants()
        self._holds = outline.holds()
        self._falls = Falls(outline, self._nothing())
        self._positions = sorted(positions, key=order_of)
        self._indexes = {position: at for at, position in enumerate(self._positions)}
        self._first = sorted(ways.first(), key=order_of)
        self._later = [later_by_strand(ways, position) for position in self._positions]
        self._held = [self._sum_of(self._holds, waiting_in(position)) for position in self._positions]
        self._need = self._greatest_need()
        self._greatest_want = self._greatest_of([want for want in self._wants if want is not None])

    def _sum_of(self, table, rows):
        total = self._nothing()
        for _, number in rows:
            total = added(total, table[number])
        return total

    def _nothing(self):
        return tuple([0 for _ in self._pools])

    def _greatest_of(self, vectors):
        greatest = self._nothing()
        for vector in vectors:
            greatest = greater(greatest, vector)
        return greatest

    def _greatest_need(self):
        needs = []
        for held, position in zip(self._held, self._positions):
            needs.append(added(held, self._sum_of(self._wants, takers_in(position))))
        return self._greatest_of(needs)

    def _index_of(self, position):
        self.check(position)
        return self._indexes[position]

    @property
    def need(self):
        """The greatest amount of each pool that a job holds and wants at one position."""
        return sizes_of(self._pools, self._need)

    @property
    def greatest_want(self):
        """The greatest amount of each pool that one take wants."""
        return sizes_of(self._pools, self._greatest_want)

    def first(self):
        """The positions at which a new job may rest, None if it may be over at once."""
        return list(self._first)

    def positions(self):
        """All positions that can be reached, in order."""
        return list(self._positions)

    def knows(self, thing):
        """Whether a value is one of the positions."""
        # The form comes first: True and 1.0 are equal to 1, a list is no key.
        return is_shaped(thing) and thing in self._indexes

    def check(self, position):
        """Raise InvalidPosition unless a value is one of the positions."""
        if not self.knows(position):
            raise InvalidPosition(position)

    def after(self, position, strand):
        """Where the job may rest when this strand has taken what it wants, None for over."""
        return list(self._later[self._index_of(position)][strand])

    def held_by(self, position):
        """What a job holds at a position."""
        return sizes_of(self._pools, self.vector_held(position))

    def takers(self, position):
        """Tuples (strand, want) of the strands that wait at takes."""
        return [(strand, sizes_of(self._pools, want)) for strand, want in self.vectors_wanted(position)]

    def vector_held(self, position):
        """What a job holds at a position, as a vector."""
        return self._held[self._index_of(position)]

    def vectors_wanted(self, position):
        """Tuples (strand, want) as of takers, with vectors."""
        self.check(position)
        return [(strand, self._wants[number]) for strand, number in takers_in(position)]

    def strands(self, position):
        """Tuples (strand, want, held, inside) of all strands that wait.

        Want is None at a both, and inside are the strands right inside it.
        """
        self.check(position)
        rows = []
        for strand, number in waiting_in(position):
            inside = inside_of(position, strand)
            rows.append((strand, self._wants[number], self._holds[number], inside))
        return rows

    def takes(self):
        """Tuples (want, held) of all takes, with what the strand that waits holds, as vectors."""
        return [(want, held) for want, held in zip(self._wants, self._holds) if want is not None]

    def falls_at(self, position):
        """Tuples (strand, falls) of all strands that wait; a fall is a tuple (need, given) of vectors."""
        self.check(position)
        return [(strand, self._falls.from_wait(number)) for strand, number in waiting_in(position)]

    def vector_needed(self):
        """The greatest need [17] of the takes, as a vector."""
        return self._falls.greatest_need


def later_by_strand(ways, position):
    """A dict from the strands that wait at takes to where the job may rest then."""
    return {strand: sorted(ways.after(position, strand), key=order_of) for strand, _ in takers_in(position)}


class Codes:
    """The codes of the jobs of a program, one after another."""

    def __init__(self, pools):
        self._pools = pools
        self._codes = {}
        self._waits = {}
        self._boths = {}

    def made(self, code):
        """The Code of a job behind those that are known, or None if the code is not valid."""
        if not is_code(code, self._pools, list(self._codes)):
            return None
        if waits_of(code, self._waits) > MOST_WAITS or boths_of(code, self._boths) > MOST_BOTHS:
            return None
        outline = Outline(self._pools, self._codes, code)
        ways = Ways(outline.nodes())
        positions = reachable(ways, MOST_POSITIONS)
        if len(positions) > MOST_POSITIONS:
            return None
        return Code(self._pools, outline, ways, positions)

    def learn(self, name, code):
        """Let the jobs behind call one more, the code of which is valid."""
        self._codes[name] = code
        self._waits[name] = waits_of(code, self._waits)
        self._boths[name] = boths_of(code, self._boths)
