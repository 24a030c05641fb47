"""Logs of moves, and what is told of the states in them [22]."""

from leastpools.careful import is_safe
from leastpools.errors import InvalidLog, TooMany
from leastpools.merging import Merge, Track, are_histories
from leastpools.runs import Run
from leastpools.states import empty_state, is_place
from leastpools.stuck import check_state, is_stuck
from leastpools.vectors import vector_of

MOST_TO_STOP = 12


def word_of(state):
    """Whether a state is stuck, or doomed to be, or safe: the word for it."""
    check_state(state)
    if is_stuck(state):
        return "stuck"
    if is_safe(state):
        return "safe"
    return "doomed"


class Watch:
    """A run that is watched: what it comes to is told behind each move."""

    def __init__(self, program, sizes):
        self._state = empty_state(program, sizes)
        self._words = []

    def __call__(self, move):
        """Do a move, and return the word of the state behind it."""
        self._state = self._state >> move
        self._words.append(word_of(self._state))
        return self._words[-1]

    @property
    def state_now(self):
        """The state behind all moves."""
        return self._state

    def words(self):
        """The words told so far."""
        return list(self._words)


def states_in(program, sizes, moves):
    """The states behind the moves of a log."""
    if not isinstance(moves, list):
        raise InvalidLog(moves)
    run = Run(program, sizes, moves)
    return list(run.states())[1:]


def first_doomed(program, sizes, moves):
    """The index of the first move of a log behind which the state is doomed or stuck, or None."""
    for index, state in enumerate(states_in(program, sizes, moves)):
        # A stuck strand never comes to be over, so no stuck state is safe.
        if not is_safe(state):
            return index
    return None


def first_stuck(program, sizes, moves):
    """The index of the first move of a log behind which there is a stuck strand, or None."""
    for index, state in enumerate(states_in(program, sizes, moves)):
        if is_stuck(state):
            return index
    return None


def fewest_stops(state):
    """As few jobs as possible, tuples (name, position), without which the state is safe."""
    check_state(state)
    if state.job_count > MOST_TO_STOP:
        raise TooMany(MOST_TO_STOP)
    places = []
    for place, many in state.jobs_by_position().items():
        places.extend([place] * many)
    for many in range(len(places) + 1):
        found = first_stops(state, places, many)
        if found is not None:
            return found
    return places


def first_stops(state, places, many):
    """The first so many of some places in order, without the jobs at which the state is safe, or None."""
    if many == 0:
        if is_safe(state):
            return []
        return None
    for at, place in enumerate(places):
        # Jobs at one place are alike.
        if at == 0 or places[at - 1] != place:
            name, position = place
            rest = first_stops(state.without(name, position), places[at + 1:], many - 1)
            if rest is not None:
                return [place, *rest]
    return None


def lets_stops(state, thing):
    """Whether a value is a list of jobs that are there, without which the state is safe."""
    check_state(state)
    if not isinstance(thing, list):
        return False
    for place in thing:
        if not is_place(state.program, place) or place not in state.jobs_by_position():
            return False
        name, position = place
        state = state.without(name, position)
    return is_safe(state)


def merged(program, sizes, histories):
    """The moves of all histories in an order in which they are possible, or None if there is none."""
    empty_state(program, sizes)
    if not are_histories(program, histories):
        raise InvalidLog(histories)
    tracks = [Track(program, history) for history in histories]
    return Merge(program, vector_of(program.pools, sizes), tracks).whole_run()
