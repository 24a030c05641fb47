"""Histories of single jobs [22], and the orders in which their moves are possible together."""

from leastpools.codes import want_of_step
from leastpools.errors import TooMany
from leastpools.packing import Packing
from leastpools.searching import MOST_STATES
from leastpools.values import is_integer
from leastpools.vectors import less_by


def is_plain(thing):
    """Whether a value is a string, an integer of at least 0, None, or a tuple of these."""
    if isinstance(thing, tuple):
        return all([is_plain(part) for part in thing])
    return thing is None or isinstance(thing, str) or (is_integer(thing) and thing >= 0)


def is_step(thing):
    """Whether a value is a tuple of two such values."""
    return isinstance(thing, tuple) and len(thing) == 2 and is_plain(thing)


def is_history(program, thing):
    """Whether a value is a tuple (name of a job, value, list of steps)."""
    if not isinstance(thing, tuple) or len(thing) != 3 or thing[0] not in program:
        return False
    return is_plain(thing[1]) and isinstance(thing[2], list) and all([is_step(step) for step in thing[2]])


def are_histories(program, thing):
    """Whether a value is a list of histories, each of which may be of moves that are none."""
    return isinstance(thing, list) and all([is_history(program, history) for history in thing])


class Track:
    """The moves of a history, up to the first one that is none.

    When so many moves are done, the job holds `holding[many]`, and the next
    move wants `wanting[many]`; None if it enters.
    """

    def __init__(self, program, history):
        self.job, position, steps = history
        self.doing = []
        self.wanting = []
        self.holding = [tuple([0 for _ in program.pools])]
        self.is_whole = False
        code = program.code(self.job)
        if code.knows(position) and position in code.first():
            self._add(code, ("enter", self.job, position), None)
            self.is_whole = self._goes_on(code, position, steps)

    def _add(self, code, move, want):
        self.doing.append(move)
        self.wanting.append(want)
        if move[-1] is None:
            self.holding.append(self.holding[0])
        else:
            self.holding.append(code.vector_held(move[-1]))

    def _goes_on(self, code, position, steps):
        # Whether all steps can come one after another.
        for strand, later in steps:
            want = want_of_step(code, position, strand, later)
            if want is None:
                return False
            self._add(code, ("take", self.job, position, strand, later), want)
            position = later
        return True


class Merge:
    """All that is reached by doing the moves of some tracks, each in its own order.

    What is reached is a number. It has, from the top: fields [packing.py] for
    how many more jobs of each name may enter, and for what is free of each
    pool; bits for the moves, those of the first track on top. The bit of a
    move is set if it is the next one of its track.
    """

    def __init__(self, program, sizes, tracks):
        self._tracks = list(tracks)
        names = program.names()
        limits = [program.limit(name) for name in names]
        self._packing = Packing([*sizes, *limits])
        # What a job takes when it enters, and gives back when it leaves: the room for one of its name.
        self._rooms = {name: self._packing.one_in(len(sizes) + at) for at, name in enumerate(names)}
        self._shift = sum([len(track.doing) for track in tracks])
        self._guards = self._packing.guards << self._shift
        self._start = self._packing.start << self._shift
        # By how many bits there are up to a move: tuples (bit, what has to be free, what is added by it, move).
        self._steps = [(0, 0, 0, None) for _ in range(self._shift + 1)]
        low = self._shift
        for track in tracks:
            low = low - len(track.doing)
            self._tell_track(track, low)
        self._origins = {self._start: None}
        self._go_through()

    def _tell_track(self, track, low):
        if len(track.doing) > 0:
            self._start = self._start + (1 << low)
        room = self._rooms[track.job]
        for at, move in enumerate(track.doing):
            change = self._packing.packed(less_by(track.holding[at], track.holding[at + 1]))
            want = room
            if track.wanting[at] is None:
                change = change - room
            else:
                want = self._packing.packed(track.wanting[at])
            if move[-1] is None:
                change = change + room
            bit = 1 << (low + at)
            change = (change << self._shift) - bit
            if at + 1 < len(track.doing):
                change = change + 2 * bit
            self._steps[low + at + 1] = (bit, want << self._shift, change, move)

    def _go_through(self):
        origins = self._origins
        guards = self._guards
        mask = (1 << self._shift) - 1
        waiting = [self._start]
        while len(waiting) > 0:
            number = waiting.pop()
            spare = number | guards
            rest = number & mask
            while rest > 0:
                step = self._steps[rest.bit_length()]
                rest = rest - step[0]
                if ((spare - step[1]) & guards) == guards:
                    later = number + step[2]
                    if later not in origins:
                        origins[later] = (number, step[3])
                        waiting.append(later)
            if len(origins) > MOST_STATES:
                raise TooMany(MOST_STATES)

    def whole_run(self):
        """All moves in an order in which they are possible, or None if there is none."""
        number = self._start + sum([change for _, _, change, _ in self._steps])
        if number not in self._origins or not all([track.is_whole for track in self._tracks]):
            return None
        moves = []
        while self._origins[number] is not None:
            number, move = self._origins[number]
            moves.append(move)
        return moves[::-1]
