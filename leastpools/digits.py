"""The states of a program with some sizes as single numbers, to which moves add.

A number has, from the top: fields [packing.py] for how many more jobs of each
name may enter, and for what is free of each pool; a bit for the outside, from
where jobs enter; digits for the places [nets.py], the first one on top, for
how many jobs are there. What a job at a place adds to a number is its weight.

A way is a tuple (want, changes, moves): what has to be free, as a number, for
some bare moves, and what each of them adds.
"""

from leastpools.packing import Packing
from leastpools.vectors import less_by


class Digits:
    """The states of a net with some sizes in numbers."""

    def __init__(self, net, sizes):
        self._sizes = sizes
        self._places = net.all_places()
        limits = net.limits()
        self._packing = Packing([*sizes, *limits])
        self._width = max([1, *limits]).bit_length()
        self._entry_bit = self._width * len(self._places)
        self._shift = self._entry_bit + 1
        self.guards = self._packing.guards << self._shift
        self.start = (self._packing.start << self._shift) + (1 << self._entry_bit)
        # What a job takes when it enters, and gives back when it leaves: the room for one of its name.
        self._rooms = [self._packing.one_in(len(sizes) + at) for at in range(len(limits))]
        self._pool_bits = self._packing.one_in(len(sizes)) - 1
        # What is held, by what is free; there are few of these.
        self._held = {}
        self._weights = [self._weight_of(net, place) for place in range(len(self._places))]
        # By how many bits there are up to the first place at which there are
        # jobs: the ways from there, the place and its lowest bit, what is below.
        self._ways = [[] for _ in range(self._shift + 1)]
        self._tops = [(None, self._entry_bit) for _ in range(self._shift + 1)]
        self._below = [0 for _ in range(self._shift + 1)]
        self._tell_outside(net)
        for place in range(len(self._places)):
            self._tell_place(net, place)

    def _lowest_bit(self, place):
        return self._width * (len(self._places) - 1 - place)

    def _weight_of(self, net, place):
        taken = self._packing.packed(net.held_at(place)) + self._rooms[net.owner_of(place)]
        return (1 << self._lowest_bit(place)) - (taken << self._shift)

    def _added_by(self, move):
        change = 0
        if move[0] is not None:
            change = change - self._weights[move[0]]
        if move[2] is not None:
            change = change + self._weights[move[2]]
        return change

    def _way(self, want, moves):
        return (want << self._shift, [self._added_by(move) for move in moves], moves)

    def _tell_outside(self, net):
        for owner, places in enumerate(net.ways_in()):
            if len(places) > 0:
                moves = [(None, (), place) for place in places]
                self._ways[self._shift].append(self._way(self._rooms[owner], moves))
        self._below[self._shift] = (1 << self._entry_bit) - 1

    def _tell_place(self, net, place):
        ways = []
        for strand, want, places in net.takes_at(place):
            moves = [(place, strand, later) for later in places]
            ways.append(self._way(self._packing.packed(want), moves))
        low = self._lowest_bit(place)
        for bits in range(low + 1, low + self._width + 1):
            self._ways[bits] = ways
            self._tops[bits] = (place, low)
            self._below[bits] = (1 << low) - 1

    def ways_at(self, place):
        """The ways from a place, or from the outside, if that is None."""
        if place is None:
            return list(self._ways[self._shift])
        return list(self._ways[self._lowest_bit(place) + 1])

    def open_ways(self, number):
        """The ways that are open in a state, those by which jobs enter first."""
        guards = self.guards
        spare = number | guards
        rest = number & ((1 << self._shift) - 1)
        found = []
        while rest > 0:
            bits = rest.bit_length()
            rest = rest & self._below[bits]
            for way in self._ways[bits]:
                if ((spare - way[0]) & guards) == guards:
                    found.append(way)
        return found

    def places_in(self, number):
        """Tuples (place, how many jobs are there) of the places at which there are jobs, in order."""
        rest = number & ((1 << self._entry_bit) - 1)
        found = []
        while rest > 0:
            bits = rest.bit_length()
            place, low = self._tops[bits]
            found.append((place, rest >> low))
            rest = rest & self._below[bits]
        return found

    def bare_of(self, number):
        """The bare state of a number."""
        bare = []
        for place, many in self.places_in(number):
            bare.extend([place] * many)
        return tuple(bare)

    def jobs_of(self, number):
        """The dict of the jobs in a state."""
        return {self._places[place]: many for place, many in self.places_in(number)}

    def used_in(self, number):
        """What all jobs hold, as a vector."""
        free = (number >> self._shift) & self._pool_bits
        if free not in self._held:
            self._held[free] = less_by(self._sizes, self._packing.unpacked(free, len(self._sizes)))
        return self._held[free]

    def peak_of(self, number, way):
        """What all jobs hold ahead of a take and what the take wants, as a vector; None if jobs enter by the way."""
        if leads_in(way):
            return None
        return self.used_in(number - way[0])


def leads_in(way):
    """Whether jobs enter by a way."""
    return way[2][0][0] is None
