"""A console: a program and a runtime for it, asked and told by lines of words [27]."""

from leastpools.commands import parts_of
from leastpools.errors import InvalidCommand, InvalidState
from leastpools.grids import Goods, caps
from leastpools.journals import position_text
from leastpools.parsing import parse
from leastpools.ranks import ranks
from leastpools.runtimes import Runtime
from leastpools.sizes import Sizes
from leastpools.verdicts import is_good, verdict
from leastpools.watching import fewest_stops, word_of

NOTHING = "-"


def listed(rows):
    """Texts with a semicolon between them; `-` if there are none."""
    if len(rows) == 0:
        return NOTHING
    return "; ".join(rows)


def caps_told(program):
    """The text of the caps."""
    return str(caps(program))


def least_told(program):
    """The texts of the least good sizes."""
    goods = Goods(program)
    return listed([str(sizes) for sizes in goods.least()])


def ranks_told(program):
    """The names of the pools with their ranks."""
    told = ranks(program)
    if told is None:
        return NOTHING
    return " ".join([f"{pool} {told[pool]}" for pool in program.pools])


def good_told(runtime):
    """Whether the sizes are good."""
    state = runtime.state_here
    if is_good(state.program, state.sizes):
        return "yes"
    return "no"


def run_told(runtime):
    """How many moves a shortest run to a stuck strand has."""
    state = runtime.state_here
    word, moves = verdict(state.program, state.sizes)
    if word == "good":
        return NOTHING
    return str(len(moves))


def free_told(runtime):
    """The text of what nobody holds."""
    return str(runtime.state_here.free)


def word_told(runtime):
    """The word of the state."""
    return word_of(runtime.state_here)


def lines_told(runtime):
    """How many lines the journal has."""
    return str(runtime.journal().count("\n"))


def jobs_told(runtime):
    """The numbers, names and positions of the jobs that are there."""
    rows = runtime.numbers()
    told = [f"{number} {name} {position_text(position)}" for number, (name, position) in rows.items()]
    return listed(told)


def stops_told(runtime):
    """The names and positions of the fewest jobs without which the state is safe."""
    rows = fewest_stops(runtime.state_here)
    return listed([f"{name} {position_text(position)}" for name, position in rows])


# What is told of a program alone, and what is told of a runtime.
OF_PROGRAM = {"caps": caps_told, "least": least_told, "ranks": ranks_told}
OF_RUNTIME = {
    "good": good_told, "run": run_told, "free": free_told, "word": word_told, "lines": lines_told,
    "jobs": jobs_told, "stops": stops_told,
}


def answer_to_enter(runtime, name, index):
    """Let a job enter at its first position with an index: its number."""
    first = [position for position in runtime.state_here.program.code(name).first() if position is not None]
    position = None
    if index < len(first):
        position = first[index]
    number = runtime.enter(name, position)
    if number is None:
        return NOTHING
    return str(number)


def answer_to_take(runtime, number, strand, index):
    """Let a strand of a job take, which then rests at the later position with an index."""
    later = -1
    if number in runtime.numbers() and strand in runtime.takers_of(number):
        positions = runtime.later_of(number, strand)
        if index < len(positions):
            later = positions[index]
    if runtime.take(number, strand, later):
        return "ok"
    return "wait"


class Console:
    """At most one program, and a runtime for it."""

    def __init__(self):
        self._program = None
        self._runtime = None

    def run(self, line):
        """Carry out a line, and return the answer."""
        parts = parts_of(line)
        if parts is None:
            raise InvalidCommand(line)
        word, told = parts
        if word == "program":
            self._program = parse(told[0])
            self._runtime = None
            return "ok"
        if self._program is None:
            raise InvalidState(line)
        if word == "sizes":
            self._runtime = Runtime(self._program, Sizes(told[0]))
            return "ok"
        if word in OF_PROGRAM:
            tell = OF_PROGRAM[word]
            return tell(self._program)
        if self._runtime is None:
            raise InvalidState(line)
        return self._answer(word, told)

    def _answer(self, word, told):
        # What is answered to words for which there has to be a runtime.
        if word in ("careful", "plain"):
            sizes = self._runtime.state_here.sizes
            self._runtime = Runtime(self._program, sizes, careful=word == "careful")
            return "ok"
        if word == "enter":
            return answer_to_enter(self._runtime, told[0], told[1])
        if word == "take":
            return answer_to_take(self._runtime, told[0], told[1], told[2])
        if word == "fail":
            self._runtime.fail(told[0])
            return "ok"
        tell = OF_RUNTIME[word]
        return tell(self._runtime)
