"""What a run needs at the most [28]: what all jobs hold ahead of a take and what it wants."""

from leastpools.grids import caps
from leastpools.states import empty_state
from leastpools.vectors import added, greater, vector_of


def want_of(program, move):
    """What a move wants, as a vector; None if a job enters."""
    if move[0] == "enter":
        return None
    _, name, position, strand, _ = move
    wants = {one: want for one, want in program.code(name).vectors_wanted(position)}
    return wants[strand]


def followed(program, moves):
    """A tuple (peak, state, index): moves done with the caps, up to the first one that is impossible.

    The peak is a vector, the index that of the impossible move, or None.
    """
    state = empty_state(program, caps(program))
    peak = tuple([0 for _ in program.pools])
    for index, move in enumerate(moves):
        if move not in state:
            return (peak, state, index)
        want = want_of(program, move)
        if want is not None:
            peak = greater(peak, added(vector_of(program.pools, state.held), want))
        state = state >> move
    return (peak, state, None)
