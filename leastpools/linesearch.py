"""All lines [queues.py] that can be reached with some sizes.

A spot is a strand that waits at a take at a place [nets.py]. A row is a tuple
of numbers, one for each entry of a line, in the order of asking: that of its
spot, and above it a tag. The tag is 0 if the strand is the only one of its job
that waits at a take, otherwise the jobs are told apart by it; they have tags
from 1 on, in the order of the first entries of each.
"""

from leastpools.digits import Digits
from leastpools.errors import TooMany
from leastpools.nets import Net
from leastpools.queues import behind_move, line_moves, strands_told, stuck_rows
from leastpools.searching import MOST_STATES
from leastpools.vectors import less_by


class Spots:
    """The spots of a program, and what becomes of rows when jobs move."""

    def __init__(self, net):
        self._places = net.all_places()
        # For each place a dict from the strands that wait at takes to the numbers of their spots.
        self._numbers = []
        self._spots = []
        for place in range(len(self._places)):
            strands = [strand for strand, _, _ in net.takes_at(place)]
            self._numbers.append({strand: len(self._spots) + at for at, strand in enumerate(strands)})
            self._spots.extend([(place, strand) for strand in strands])
        self.bits = len(self._spots).bit_length()
        self.mask = (1 << self.bits) - 1

    def tail_to(self, place):
        """The row of just one job at a place, which may be None, if it has no tags there, otherwise None."""
        if place is None:
            return ()
        if len(self._numbers[place]) > 1:
            return None
        return tuple(self._numbers[place].values())

    def entered(self, row, place):
        """The row behind a move by which a job enters at a place."""
        tag = 0
        if len(self._numbers[place]) > 1:
            tag = 1 + max([entry >> self.bits for entry in row], default=0)
        return row + tuple([(tag << self.bits) + number for number in self._numbers[place].values()])

    def moved(self, row, at, place):
        """The row behind a move by which the entry at an index is served, and its job rests at a place."""
        tag = row[at] >> self.bits
        # A tag that no other job can have.
        own = len(row) + 1
        if place is None or len(self._numbers[place]) == 1:
            own = 0
        new = {}
        if place is not None:
            new = {strand: number + (own << self.bits) for strand, number in self._numbers[place].items()}
        entries = []
        for entry in row[:at] + row[at + 1:]:
            if tag > 0 and entry >> self.bits == tag:
                # Who is still in the line waits at the same take as before.
                entry = new.pop(self._spots[entry & self.mask][1])
            entries.append(entry)
        return self._tagged(entries + list(new.values()))

    def _tagged(self, entries):
        # The row with the tags in order.
        tags = {0: 0}
        for entry in entries:
            tags.setdefault(entry >> self.bits, len(tags))
        return tuple([(tags[entry >> self.bits] << self.bits) + (entry & self.mask) for entry in entries])

    def bare_of(self, row):
        """The bare line of a row."""
        places = []
        asked = []
        indexes = {}
        for entry in row:
            place, strand = self._spots[entry & self.mask]
            tag = entry >> self.bits
            if tag == 0 or tag not in indexes:
                indexes[tag] = len(places)
                places.append(self._places[place])
            asked.append((indexes[tag], strand))
        return (tuple(places), tuple(asked))


class LineSearch:
    """The lines that can be reached, the nearest ones first, by their indexes."""

    def __init__(self, program, sizes):
        self._program = program
        self._sizes = sizes
        net = Net(program)
        self._places = net.all_places()
        self._digits = Digits(net, sizes)
        self._spots = Spots(net)
        self._entering = [self._led(way, True) for way in self._digits.ways_at(None)]
        self._serving = []
        for place in range(len(self._places)):
            self._serving.extend(self._served_at(net.takes_at(place), place))
        self._all_pools = (1 << len(sizes)) - 1
        # For each line its row, and the number [digits.py] of its state.
        self._rows = [()]
        self._numbers = [self._digits.start]
        self._met = {(): True}
        self._origins = [None]
        self._has_dead = False
        index = 0
        while index < len(self._rows):
            self._go_on_from(index)
            index = index + 1
            if len(self._rows) > MOST_STATES:
                raise TooMany(MOST_STATES)

    def _served_at(self, takes, place):
        # For each take at a place a tuple (pools that are wanted, as bits, want, leads).
        rows = []
        for (_, wanted, _), way in zip(takes, self._digits.ways_at(place)):
            want, leads = self._led(way, len(takes) == 1)
            rows.append((sum([1 << at for at, amount in enumerate(wanted) if amount > 0]), want, leads))
        return rows

    def _led(self, way, is_alone):
        # A tuple (want, leads) for a way; a lead is a tuple (change, place, tail), the tail None if there are tags.
        want, changes, moves = way
        leads = []
        for change, (_, _, place) in zip(changes, moves):
            tail = None
            if is_alone:
                tail = self._spots.tail_to(place)
            leads.append((change, place, tail))
        return (want, leads)

    def _go_on_from(self, index):
        row = self._rows[index]
        number = self._numbers[index]
        served = self._behind_serving(row, number)
        if len(served) == 0 and len(row) > 0:
            self._has_dead = True
        found = self._behind_entering(row, number) + served
        for later, behind in list(found):
            if later not in self._met:
                self._met[later] = True
                self._rows.append(later)
                self._numbers.append(behind)
                self._origins.append(index)

    def _behind_entering(self, row, number):
        # Tuples (row, number) of the lines behind the moves that enter.
        guards = self._digits.guards
        spare = number | guards
        found = []
        for want, leads in self._entering:
            if ((spare - want) & guards) == guards:
                for change, place, tail in leads:
                    if tail is None:
                        later = self._spots.entered(row, place)
                    else:
                        later = row + tail
                    found.append((later, number + change))
        return found

    def _behind_serving(self, row, number):
        # Tuples (row, number) of the lines behind the moves that take.
        guards = self._digits.guards
        spare = number | guards
        mask = self._spots.mask
        found = []
        wanted = 0
        for at, entry in enumerate(row):
            pools, want, leads = self._serving[entry & mask]
            if (wanted & pools) == 0 and ((spare - want) & guards) == guards:
                rest = row[:at] + row[at + 1:]
                for change, place, tail in leads:
                    if tail is None:
                        later = self._spots.moved(row, at, place)
                    else:
                        later = rest + tail
                    found.append((later, number + change))
            wanted = wanted | pools
            if wanted == self._all_pools:
                break
        return found

    def how_many(self):
        """How many lines can be reached."""
        return len(self._rows)

    def first_stuck_run(self):
        """The moves of one of the shortest runs to a line with a stuck strand, or None if there is no such run."""
        # A stuck strand stays so; when only stuck ones are left, no move takes.
        if not self._has_dead:
            return None
        told = strands_told(self._program, self._places)
        for index in range(len(self._rows)):
            if len(stuck_rows(told, self._spots.bare_of(self._rows[index]), self._free_at(index))) > 0:
                return self._moves_to(told, index)
        return None

    def _free_at(self, index):
        return less_by(self._sizes, self._digits.used_in(self._numbers[index]))

    def _moves_to(self, told, index):
        moves = []
        while self._origins[index] is not None:
            ahead = self._origins[index]
            bare = self._spots.bare_of(self._rows[ahead])
            later = self._spots.bare_of(self._rows[index])
            rows = line_moves(self._program, told, bare, self._free_at(ahead))
            moves.append([move for move in rows if behind_move(bare, move) == later][0])
            index = ahead
        return moves[::-1]
