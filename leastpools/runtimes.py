"""Runtimes: jobs with numbers [24], and the journals from which they are recovered [25]."""

from leastpools.errors import InvalidLog, NoMove
from leastpools.granting import is_let_through
from leastpools.journals import Journal, position_text, positions_by_text, strand_text, strands_by_text
from leastpools.positions import is_strand
from leastpools.states import empty_state
from leastpools.values import is_integer


class Runtime:
    """Jobs that enter, take and fail, with numbers in the order in which they enter."""

    def __init__(self, program, sizes, *, careful=False):
        self._state = empty_state(program, sizes)
        self._careful = careful
        self._there = {}
        self._entered = 0
        self._journal = Journal()

    @property
    def state_here(self):
        """The state of the jobs that are there."""
        return self._state

    def numbers(self):
        """A dict from the numbers of the jobs that are there to tuples (name, position)."""
        return {number: self._there[number] for number in self._there}

    def journal(self):
        """The text of the journal."""
        return self._journal.text()

    def enter(self, name, position):
        """Let a job begin; its number, or None if it stays outside."""
        code = self._state.program.code(name)
        if not code.knows(position) or position not in code.first():
            raise NoMove(("enter", name, position))
        if not self._is_done(("enter", name, position)):
            return None
        self._entered = self._entered + 1
        self._there[self._entered] = (name, position)
        self._journal.write(f"enter {self._entered} {name} {position_text(position)}")
        return self._entered

    def take(self, number, strand, later):
        """Let a strand take what it wants; whether it does."""
        if not self._is_there(number) or not self._may_come(number, strand, later):
            raise NoMove(("take", number, strand, later))
        name, position = self._there[number]
        if not self._is_done(("take", name, position, strand, later)):
            return False
        if later is None:
            self._there.pop(number)
        else:
            self._there[number] = (name, later)
        self._journal.write(f"take {number} {strand_text(strand)} {position_text(later)}")
        return True

    def fail(self, number):
        """Let a job fail: it gives all back and leaves."""
        if not self._is_there(number):
            raise NoMove(("fail", number))
        name, position = self._there[number]
        self._state = self._state.without(name, position)
        self._there.pop(number)
        self._journal.write(f"fail {number}")

    def _is_there(self, number):
        # The form comes first: True is equal to 1, and a list is no key.
        return is_integer(number) and number in self._there

    def takers_of(self, number):
        """The strands of a job that is there that wait at takes."""
        name, position = self._there[number]
        return [strand for strand, _ in self._state.program.code(name).takers(position)]

    def later_of(self, number, strand):
        """Where a job that is there may rest when such a strand has taken."""
        name, position = self._there[number]
        return self._state.program.code(name).after(position, strand)

    def _may_come(self, number, strand, later):
        # Whether a strand of a job that is there waits at a take, and the job may rest there behind it.
        if not is_strand(strand) or strand not in self.takers_of(number):
            return False
        name, _ = self._there[number]
        if later is not None and not self._state.program.code(name).knows(later):
            return False
        return later in self.later_of(number, strand)

    def _is_done(self, move):
        # Do a move if it is possible, and a careful runtime lets its grant through.
        if move not in self._state or (self._careful and not is_let_through(self._state, move)):
            return False
        self._state = self._state >> move
        return True

    def is_done_again(self, line):
        """Do the event of a line if it is possible and this is its line here; whether it is done."""
        words = line.split(" ")[2:]
        if line != self._journal.line_for(" ".join(words)):
            return False
        if len(words) == 4 and words[0] == "enter":
            return self._enters_again(words)
        numbers = {str(number): number for number in self._there}
        if len(words) < 2 or words[1] not in numbers:
            return False
        number = numbers[words[1]]
        if len(words) == 4 and words[0] == "take":
            return self._takes_again(number, words)
        if len(words) > 2 or words[0] != "fail":
            return False
        self.fail(number)
        return True

    def _enters_again(self, words):
        # The words of a line are compared as texts, so a number with a zero ahead is another one.
        _, number, name, place = words
        if number != str(self._entered + 1) or name not in self._state.program:
            return False
        code = self._state.program.code(name)
        positions = positions_by_text([position for position in code.first() if position is not None])
        return place in positions and self.enter(name, positions[place]) is not None

    def _takes_again(self, number, words):
        strands = strands_by_text(self.takers_of(number))
        if words[2] not in strands:
            return False
        strand = strands[words[2]]
        positions = positions_by_text(self.later_of(number, strand))
        return words[3] in positions and self.take(number, strand, positions[words[3]])


def recovered(program, sizes, text, *, careful=False):
    """A tuple (runtime, number): a runtime that did so many lines of a journal again, as far as they are right."""
    if not isinstance(text, str):
        raise InvalidLog(text)
    runtime = Runtime(program, sizes, careful=careful)
    many = 0
    for line in text.split("\n")[:-1]:
        if not runtime.is_done_again(line):
            return (runtime, many)
        many = many + 1
    return (runtime, many)
