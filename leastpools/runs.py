"""Runs: moves one after another from the state without jobs [10]."""

from leastpools.errors import InvalidSizes, InvalidState
from leastpools.sizes import Sizes
from leastpools.states import empty_state
from leastpools.values import is_between


class Trial:
    """For a `with` block in which a run may go on; behind it, the run is as it was before."""

    def __init__(self, run):
        self._run = run
        self._moves = []
        self._states = []

    def __enter__(self):
        self._moves = list(self._run._moves)
        self._states = list(self._run._states)
        return self._run

    def __exit__(self, kind, value, trace):
        run = self._run
        run._moves = self._moves
        run._states = self._states


class Run:
    """Moves from the state without jobs, and the states behind them."""

    def __init__(self, program, sizes, moves=()):
        self._states = [empty_state(program, sizes)]
        self._moves = []
        for move in moves:
            self._go(move)

    def _go(self, move):
        state = self._states[-1] >> move
        self._states.append(state)
        self._moves.append(move)
        return state

    def __call__(self, move):
        """Do one more move, and return the state behind it."""
        return self._go(move)

    def __iter__(self):
        return iter(self._states)

    def __len__(self):
        return len(self._moves)

    def __getitem__(self, at):
        if not is_between(at, 0, len(self._moves)):
            raise InvalidState(at)
        return self._states[at]

    @property
    def state(self):
        """The state behind all moves."""
        return self._states[-1]

    def done(self):
        """The moves."""
        return list(self._moves)

    def states(self):
        """All states, that without jobs first."""
        yield from self._states

    def undo(self, many=1):
        """Take back the last moves."""
        if not is_between(many, 0, len(self._moves)):
            raise InvalidState(many)
        left = len(self._moves) - many
        self._moves = self._moves[:left]
        self._states = self._states[:left + 1]

    def twin(self):
        """An independent run with the same moves."""
        run = Run(self.state.program, self.state.sizes)
        run._moves = list(self._moves)
        run._states = list(self._states)
        return run

    def trial(self):
        """What makes a `with` block behind which the run is as it was before."""
        return Trial(self)

    def look_ahead(self, moves):
        """The state behind further moves, which are not done."""
        state = self.state
        for move in moves:
            state = state >> move
        return state

    def at_sizes(self, sizes):
        """A tuple (run, index): the run with other sizes, up to the first move that is impossible."""
        if not isinstance(sizes, Sizes):
            raise InvalidSizes(sizes)
        run = Run(self.state.program, sizes)
        for index, move in enumerate(self.done()):
            if move not in run.state:
                return (run, index)
            run._go(move)
        return (run, None)
