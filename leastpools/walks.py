"""Moves [9] done one after another, without the states between them."""

from leastpools.codes import want_of_step
from leastpools.positions import is_strand
from leastpools.states import count_of, is_place, jobs_behind
from leastpools.strands import are_stuck
from leastpools.values import first_word
from leastpools.vectors import added, greater, is_within, less_by


class Walk:
    """Jobs that move from the state without jobs on, with sizes that are told as a vector."""

    def __init__(self, program, amounts):
        self._program = program
        self._used = tuple([0 for _ in amounts])
        self._amounts = amounts
        self._jobs = {}
        self._most = self._used

    def jobs_now(self):
        """A dict from tuples (name, position) to how many jobs rest there."""
        return {place: self._jobs[place] for place in self._jobs}

    def most_used(self):
        """The peak [28] of the moves done so far, as a vector."""
        return self._most

    def is_stuck_now(self):
        """Whether there is a stuck strand."""
        return are_stuck(self._program, self._jobs, self._amounts)

    def goes(self, move):
        """Do a move, if a value is one; whether it is."""
        word = first_word(move)
        if word == "enter":
            return self._lets_in(move)
        return word == "take" and len(move) == 5 and self._lets_take(move)

    def _lets_in(self, move):
        if not is_place(self._program, move[1:]) or move[2] not in self._program.code(move[1]).first():
            return False
        if count_of(self._jobs, move[1]) >= self._program.limit(move[1]):
            return False
        self._jobs = jobs_behind(self._jobs, move)
        return True

    def _lets_take(self, move):
        _, name, position, strand, later = move
        if not is_place(self._program, (name, position)) or (name, position) not in self._jobs:
            return False
        code = self._program.code(name)
        if not is_strand(strand) or (later is not None and not code.knows(later)):
            return False
        want = want_of_step(code, position, strand, later)
        if want is None or not is_within(added(self._used, want), self._amounts):
            return False
        self._most = greater(self._most, added(self._used, want))
        self._used = less_by(self._used, code.vector_held(position))
        if later is not None:
            self._used = added(self._used, code.vector_held(later))
        self._jobs = jobs_behind(self._jobs, move)
        return True
