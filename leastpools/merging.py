"""Histories of single jobs [22], and the orders in which their moves are possible together."""

from leastpools.errors import TooMany
from leastpools.searching import MOST_STATES
from leastpools.values import is_integer
from leastpools.vectors import is_within, less_by, with_amount


def is_plain(thing):
    """Whether a value is a string, an integer of at least 0, None, or a tuple of these."""
    if isinstance(thing, tuple):
        return all([is_plain(part) for part in thing])
    return thing is None or isinstance(thing, str) or (is_integer(thing) and thing >= 0)


def is_step(thing):
    """Whether a value is a tuple of two such values."""
    return isinstance(thing, tuple) and len(thing) == 2 and is_plain(thing)


def is_history(program, thing):
    """Whether a value is a tuple (name of a job, value, list of steps)."""
    if not isinstance(thing, tuple) or len(thing) != 3 or thing[0] not in program:
        return False
    return is_plain(thing[1]) and isinstance(thing[2], list) and all([is_step(step) for step in thing[2]])


def are_histories(program, thing):
    """Whether a value is a list of histories, each of which may be of moves that are none."""
    return isinstance(thing, list) and all([is_history(program, history) for history in thing])


class Track:
    """The moves of a history, up to the first one that is none.

    When so many moves are done, the job holds `holding[many]`, and the next
    move wants `wanting[many]`; None if it enters.
    """

    def __init__(self, program, history):
        self.job, position, steps = history
        self.doing = []
        self.wanting = []
        self.holding = [tuple([0 for _ in program.pools])]
        self.is_whole = False
        code = program.code(self.job)
        if code.knows(position) and position in code.first():
            self._add(code, ("enter", self.job, position), None)
            self.is_whole = self._goes_on(code, position, steps)

    def _add(self, code, move, want):
        self.doing.append(move)
        self.wanting.append(want)
        if move[-1] is None:
            self.holding.append(self.holding[0])
        else:
            self.holding.append(code.vector_held(move[-1]))

    def _goes_on(self, code, position, steps):
        # Whether all steps can come one after another.
        for strand, later in steps:
            want = want_of_step(code, position, strand, later)
            if want is None:
                return False
            self._add(code, ("take", self.job, position, strand, later), want)
            position = later
        return True

    def is_there(self, many):
        """Whether the job is there when so many moves are done."""
        return many > 0 and self.doing[many - 1][-1] is not None


def want_of_step(code, position, strand, later):
    """What is wanted in a step from a position, as a vector; None if there is no such step."""
    if position is None:
        return None
    for one, want, positions in code.ways_on(position):
        if one == strand and later in positions:
            return want
    return None


class Merge:
    """All that is reached by doing the moves of some tracks, each in its own order.

    What is reached is told by the tuple of how many moves of each are done.
    """

    def __init__(self, program, sizes, tracks):
        self._limits = {name: program.limit(name) for name in program.names()}
        self._sizes = sizes
        self._tracks = list(tracks)
        start = tuple([0 for _ in tracks])
        self._origins = {start: None}
        waiting = [start]
        while len(waiting) > 0:
            done = waiting.pop()
            for at in self._tracks_that_can(done):
                later = with_amount(done, at, done[at] + 1)
                if later not in self._origins:
                    self._meet(later, (done, at))
                    waiting.append(later)

    def _meet(self, done, origin):
        if len(self._origins) == MOST_STATES:
            raise TooMany(MOST_STATES)
        self._origins[done] = origin

    def _tracks_that_can(self, done):
        # The indexes of the tracks of which one more move is possible.
        free = self._sizes
        counts = {name: 0 for name in self._limits}
        for track, many in zip(self._tracks, done):
            free = less_by(free, track.holding[many])
            if track.is_there(many):
                counts[track.job] = counts[track.job] + 1
        found = []
        for at, track in enumerate(self._tracks):
            if done[at] < len(track.doing):
                want = track.wanting[done[at]]
                if want is None and counts[track.job] < self._limits[track.job]:
                    found.append(at)
                if want is not None and is_within(want, free):
                    found.append(at)
        return found

    def whole_run(self):
        """All moves in an order in which they are possible, or None if there is none."""
        done = tuple([len(track.doing) for track in self._tracks])
        if done not in self._origins or not all([track.is_whole for track in self._tracks]):
            return None
        moves = []
        while self._origins[done] is not None:
            done, at = self._origins[done]
            moves.append(self._tracks[at].doing[done[at]])
        return moves[::-1]
