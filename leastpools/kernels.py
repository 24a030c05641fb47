"""Where a run gets stuck, and what is left of it without the jobs that are not stuck [14]."""

from leastpools.errors import InvalidState, NoMove
from leastpools.grids import caps, check_grid
from leastpools.peaks import followed
from leastpools.programs import check_program
from leastpools.runs import Run
from leastpools.strands import are_stuck
from leastpools.stuck import stuck_set
from leastpools.vectors import is_within, sizes_of, vector_of, vectors_to


def spread(program, moves):
    """The Sizes of the grid at which moves can be done and lead to a stuck strand, in order."""
    check_program(program)
    greatest = vector_of(program.pools, caps(program))
    check_grid(greatest)
    if not isinstance(moves, list):
        raise NoMove(moves)
    peak, jobs, index = followed(program, moves)
    # What is impossible with the caps is impossible with all sizes.
    if index is not None:
        return []
    fitting = [vector for vector in vectors_to(greatest) if is_within(peak, vector)]
    return [sizes_of(program.pools, vector) for vector in fitting if are_stuck(program, jobs, vector)]


def kernel(run):
    """A new run with just the moves of the jobs that have a stuck strand at the end."""
    if not isinstance(run, Run):
        raise InvalidState(run)
    state = run.state
    stuck = {(name, position): True for name, position, _ in stuck_set(state)}
    moves = run.done()
    kept = []
    for place, histories in histories_of(moves).items():
        if place in stuck:
            for history in histories:
                kept.extend(history)
    return Run(state.program, state.sizes, [moves[index] for index in sorted(kept)])


def histories_of(moves):
    """A dict from the places at the end of a run to a list for each job there of the indexes of its moves."""
    found = {}
    for index, move in enumerate(moves):
        history = []
        if move[0] == "take":
            history = found[move[1:3]].pop()
        if move[-1] is not None:
            found.setdefault((move[1], move[-1]), []).append([*history, index])
    return found
