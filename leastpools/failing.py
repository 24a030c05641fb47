"""Jobs that fail, and jobs that give up and begin anew [23]."""

from leastpools.rings import Rings, jobs_begun_anew, repeats_of
from leastpools.states import State, empty_state, is_place
from leastpools.stuck import check_state
from leastpools.values import first_word


def rough_moves(state):
    """Yield all moves, then those by which a job fails, then those by which one gives up."""
    check_state(state)
    yield from state.moves()
    for name, position in state.jobs_by_position():
        yield ("fail", name, position)
    yield from repeats_of(state)


def is_failure(state, thing):
    """Whether a value is a move by which a job fails."""
    if first_word(thing) != "fail" or not is_place(state.program, thing[1:]):
        return False
    return thing[1:] in state.jobs_by_position()


def is_repeat(state, thing):
    """Whether a value is a move by which a job gives up and begins anew."""
    # The form comes first: True is equal to 1.
    if first_word(thing) != "again" or len(thing) != 4 or not is_place(state.program, thing[1:3]):
        return False
    return is_place(state.program, (thing[1], thing[3])) and thing in repeats_of(state)


def behind_rough(state, move):
    """The state behind a move, or behind one by which a job fails or gives up."""
    check_state(state)
    if is_failure(state, move):
        return state.without(move[1], move[2])
    if is_repeat(state, move):
        return State(state.program, state.sizes, jobs_begun_anew(state.jobs_by_position(), move))
    return state >> move


def ring_of_repeats(program, sizes):
    """A tuple (moves to a state, ring there), or None if no state that can be reached has one."""
    empty_state(program, sizes)
    return Rings(program, sizes).first_ring()


def lets_ring(program, sizes, thing):
    """Whether a value is a tuple of moves to a state and a ring there."""
    state = empty_state(program, sizes)
    if not isinstance(thing, tuple) or len(thing) != 2 or not all([isinstance(part, list) for part in thing]):
        return False
    moves, ring = thing
    for move in moves:
        if move not in state:
            return False
        state = state >> move
    return len(ring) > 0 and leads_back(state, ring)


def leads_back(state, ring):
    """Whether a list holds moves that take, and the job stays, or give up, and lead back to a state."""
    later = state
    for move in ring:
        if not is_stay(later, move) and not is_repeat(later, move):
            return False
        later = behind_rough(later, move)
    return later == state


def is_stay(state, thing):
    """Whether a value is a move that takes, and the job stays."""
    return first_word(thing) == "take" and thing in state and thing[-1] is not None
