"""States: how many jobs rest at which position, with pools of some sizes [9]."""

from leastpools.errors import InvalidSizes, InvalidState, NoJob, NoMove
from leastpools.positions import is_strand
from leastpools.programs import Program
from leastpools.sizes import Sizes
from leastpools.values import first_word, is_integer
from leastpools.vectors import added, is_within, less_by, sizes_of, times, vector_of


def is_place(program, thing):
    """Whether a value is a tuple (name, position) of a program."""
    if not isinstance(thing, tuple) or len(thing) != 2 or thing[0] not in program:
        return False
    return program.code(thing[0]).knows(thing[1])


def count_of(jobs, name):
    """How many jobs of a name are there."""
    return sum([jobs[key] for key in jobs if key[0] == name])


def held_by_jobs(program, jobs):
    """What all jobs hold, as a vector."""
    held = tuple([0 for _ in program.pools])
    for name, position in jobs:
        vector = program.code(name).vector_held(position)
        held = added(held, times(vector, jobs[(name, position)]))
    return held


def are_within_limits(program, thing):
    """Whether a value is a dict of jobs and positions of a program, within the limits."""
    if not isinstance(thing, dict):
        return False
    counts = {}
    for key, many in thing.items():
        if not is_place(program, key) or not is_integer(many) or many < 1:
            return False
        counts[key[0]] = counts.get(key[0], 0) + many
    return all([counts[name] <= program.limit(name) for name in counts])


def are_resting(program, sizes, thing):
    """Whether a value is jobs within the limits that hold at most these sizes."""
    if not are_within_limits(program, thing):
        return False
    return len(thing) == 0 or is_within(held_by_jobs(program, thing), vector_of(program.pools, sizes))


def in_order(program, jobs):
    """The same jobs, by the order of the jobs of the program, then of the positions."""
    if len(jobs) < 2:
        return {place: jobs[place] for place in jobs}
    names = program.names()
    rows = [(names.index(place[0]), program.code(place[0]).index_of(place[1]), place) for place in jobs]
    return {place: jobs[place] for _, _, place in sorted(rows)}


def with_one_more(jobs, key):
    """The jobs with one more at a place."""
    more = {place: jobs[place] for place in jobs}
    more[key] = more.get(key, 0) + 1
    return more


def with_one_less(jobs, key):
    """The jobs with one less at a place, at which there is one."""
    less = {place: jobs[place] for place in jobs if place != key}
    if jobs[key] > 1:
        less[key] = jobs[key] - 1
    return less


def jobs_behind(jobs, move):
    """The jobs behind a move that is possible."""
    if move[0] == "enter":
        return with_one_more(jobs, (move[1], move[2]))
    rest = with_one_less(jobs, (move[1], move[2]))
    if move[4] is None:
        return rest
    return with_one_more(rest, (move[1], move[4]))


class State:
    """How many jobs rest at which position, with pools of some sizes."""

    def __init__(self, program, sizes, jobs):
        if not isinstance(program, Program):
            raise InvalidState(program)
        if not isinstance(sizes, Sizes):
            raise InvalidSizes(sizes)
        if not are_resting(program, sizes, jobs):
            raise InvalidState(jobs)
        self._program = program
        self._sizes = sizes
        self._jobs = in_order(program, jobs)
        self._used = held_by_jobs(program, jobs)
        self._held_sizes = None
        self._free_sizes = None
        self._free_vector = None

    @property
    def program(self):
        """The program."""
        return self._program

    @property
    def sizes(self):
        """The sizes of the pools."""
        return self._sizes

    @property
    def held(self):
        """What all jobs hold together."""
        if self._held_sizes is None:
            self._held_sizes = sizes_of(self._program.pools, self._used)
        return self._held_sizes

    @property
    def free(self):
        """What nobody holds."""
        if self._free_sizes is None:
            self._free_sizes = self._sizes - sizes_of(self._program.pools, self._used)
        return self._free_sizes

    @property
    def spare(self):
        """What nobody holds, as a vector."""
        if self._free_vector is None:
            self._free_vector = less_by(vector_of(self._program.pools, self._sizes), self._used)
        return self._free_vector

    @property
    def job_count(self):
        """How many jobs are there."""
        return sum(list(self._jobs.values()))

    def __eq__(self, other):
        if not isinstance(other, State):
            return False
        return self._program == other._program and self._sizes == other._sizes and self._jobs == other._jobs

    def __contains__(self, x):
        word = first_word(x)
        if word == "enter" and len(x) == 3:
            return self._can_enter(x[1], x[2])
        if word == "take" and len(x) == 5 and is_place(self._program, x[1:3]):
            return x[1:3] in self._jobs and self._can_take(x)
        return False

    def __rshift__(self, other):
        if other not in self:
            raise NoMove(other)
        return State(self._program, self._sizes, jobs_behind(self._jobs, other))

    def jobs_by_position(self):
        """A dict from tuples (name, position) to how many jobs rest there."""
        return {place: self._jobs[place] for place in self._jobs}

    def count(self, name):
        """How many jobs of a name are there."""
        if name not in self._program:
            raise NoJob(name)
        return count_of(self._jobs, name)

    def moves(self):
        """All moves: those that enter, then those that take."""
        for name in self._program.names():
            for position in self._entries(name):
                yield ("enter", name, position)
        for name, position in self._jobs:
            for strand, later in self._ways_open(name, position):
                for one in later:
                    yield ("take", name, position, strand, one)

    def without(self, name, position):
        """The state without one of the jobs at a position."""
        if not is_place(self._program, (name, position)) or (name, position) not in self._jobs:
            raise InvalidState((name, position))
        return State(self._program, self._sizes, with_one_less(self._jobs, (name, position)))

    def at_sizes(self, sizes):
        """The state with pools of other sizes."""
        return State(self._program, sizes, self.jobs_by_position())

    def _entries(self, name):
        if count_of(self._jobs, name) >= self._program.limit(name):
            return []
        return [position for position in self._program.code(name).first() if position is not None]

    def _ways_open(self, name, position):
        # The strands that can take, with the later positions.
        rows = self._program.code(name).ways_on(position)
        return [(strand, later) for strand, want, later in rows if is_within(want, self.spare)]

    def _can_enter(self, name, position):
        if not is_place(self._program, (name, position)):
            return False
        return position in self._entries(name)

    def _can_take(self, move):
        _, name, position, strand, later = move
        if not is_strand(strand) or (later is not None and not self._program.code(name).knows(later)):
            return False
        return any([one == strand and later in ways for one, ways in self._ways_open(name, position)])


def empty_state(program, sizes):
    """The state without jobs."""
    return State(program, sizes, {})


def known_state(program, sizes, jobs, used):
    """The state with jobs of which it is known that they can be there, in which order, and what they hold.

    It keeps the dict itself. Where there are many states, most of the time
    would go into finding out what is known already.
    """
    state = State(program, sizes, {})
    state._jobs = jobs
    state._used = used
    return state
