"""Pools that are served in the order in which strands ask [21]."""

from leastpools.errors import InvalidSizes, InvalidState, NoMove
from leastpools.linesearch import LineSearch
from leastpools.positions import is_strand
from leastpools.programs import Program
from leastpools.queues import (
    behind_move, entries_of, held_at, is_line_move, line_moves, numbered, strands_told, stuck_rows,
)
from leastpools.sizes import Sizes
from leastpools.states import is_place
from leastpools.values import is_integer
from leastpools.vectors import is_within, less_by, sizes_of, vector_of


def are_places(program, sizes, thing):
    """Whether a value is a tuple of places of jobs within the limits that hold at most sizes."""
    if not isinstance(thing, tuple) or not all([is_place(program, place) for place in thing]):
        return False
    names = [name for name, _ in thing]
    if not all([names.count(name) <= program.limit(name) for name in program.names()]):
        return False
    return is_within(held_at(program, thing), vector_of(program.pools, sizes))


def is_entry(thing):
    """Whether a value has the form of a tuple (index of a job, strand)."""
    return isinstance(thing, tuple) and len(thing) == 2 and is_integer(thing[0]) and is_strand(thing[1])


def are_entries(places, thing):
    """Whether a value is a tuple of the entries of all strands of some jobs that wait at takes, each once."""
    if not isinstance(thing, tuple) or not all([is_entry(entry) for entry in thing]):
        return False
    waiting = {}
    for index, (_, position) in enumerate(places):
        for entry in entries_of(index, position):
            waiting[entry] = True
    # As many as wait, and none left out, so none is there twice.
    return len(thing) == len(waiting) and {entry: True for entry in thing} == waiting


class Line:
    """Jobs, and the order in which those of their strands asked that wait at takes."""

    def __init__(self, program, sizes, jobs=(), asked=()):
        if not isinstance(program, Program):
            raise InvalidState(program)
        if not isinstance(sizes, Sizes):
            raise InvalidSizes(sizes)
        if not are_places(program, sizes, jobs):
            raise InvalidState(jobs)
        if not are_entries(jobs, asked):
            raise InvalidState(asked)
        self._program = program
        self._sizes = sizes
        self._bare = numbered(jobs, asked)

    def job_rows(self):
        """The tuple of the jobs, tuples (name, position), in the order of their first entries."""
        return self._bare[0]

    def asked(self):
        """The tuple of the strands that wait at takes, tuples (index of a job, strand), in the order of asking."""
        return self._bare[1]

    def left_over(self):
        """What nobody holds."""
        return self._sizes - sizes_of(self._program.pools, held_at(self._program, self.job_rows()))

    def __eq__(self, other):
        if not isinstance(other, Line):
            return False
        return self._program == other._program and self._sizes == other._sizes and self._bare == other._bare

    def __contains__(self, x):
        # The form comes first: True is equal to 1.
        return is_line_move(x) and x in self.all_moves()

    def __rshift__(self, other):
        if other not in self:
            raise NoMove(other)
        places, asked = behind_move(self._bare, other)
        return Line(self._program, self._sizes, places, asked)

    def _strands_there(self):
        return strands_told(self._program, self.job_rows())

    def _free_amounts(self):
        amounts = vector_of(self._program.pools, self._sizes)
        return less_by(amounts, held_at(self._program, self.job_rows()))

    def all_moves(self):
        """All moves, in order."""
        return line_moves(self._program, self._strands_there(), self._bare, self._free_amounts())

    def all_stuck(self):
        """The strands that never go on, tuples (index, strand), in order."""
        return stuck_rows(self._strands_there(), self._bare, self._free_amounts())


def check_line(line):
    """Raise InvalidState unless a value is a Line."""
    if not isinstance(line, Line):
        raise InvalidState(line)


def moves_in_line(line):
    """Yield all moves: those that enter, then those that take."""
    check_line(line)
    yield from line.all_moves()


def stuck_in_line(line):
    """The strands that never go on, tuples (index, strand)."""
    check_line(line)
    return line.all_stuck()


def verdict_in_line(program, sizes):
    """A shortest run to a line with a stuck strand, or how many lines can be reached."""
    Line(program, sizes)
    search = LineSearch(program, vector_of(program.pools, sizes))
    moves = search.first_stuck_run()
    if moves is None:
        return ("good", search.how_many())
    return ("stuck", moves)


def lets_line_run(program, sizes, thing):
    """Whether a value is a list of moves that can be done and lead to a line with a stuck strand."""
    line = Line(program, sizes)
    if not isinstance(thing, list):
        return False
    for move in thing:
        if move not in line:
            return False
        line = line >> move
    return len(line.all_stuck()) > 0
