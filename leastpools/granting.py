"""Grants that a careful runtime lets through, and those that it holds back [18]."""

from leastpools.careful import is_safe, unsafe_set
from leastpools.guarding import CarefulSearch
from leastpools.nets import Net
from leastpools.states import State, empty_state
from leastpools.stuck import check_state
from leastpools.vectors import vector_of


def grant_of(move):
    """The grant of which a move is one."""
    if move[0] == "enter":
        return move[:2]
    return move[:4]


def moves_by_grant(state):
    """A dict from the grants that have moves to these, both in the order of the moves."""
    grants = {}
    for move in state.moves():
        grants.setdefault(grant_of(move), []).append(move)
    return grants


def unsafe_moves(state, moves):
    """The moves behind which a state is not safe."""
    return [move for move in moves if not is_safe(state >> move)]


def is_let_through(state, move):
    """Whether a careful runtime lets the grant through of which a move is one that is possible."""
    grant = grant_of(move)
    return len(unsafe_moves(state, [one for one in state.moves() if grant_of(one) == grant])) == 0


def careful_moves(state):
    """Yield the moves, in order, whose grant is let through."""
    check_state(state)
    grants = moves_by_grant(state)
    for moves in list(grants.values()):
        if len(unsafe_moves(state, moves)) == 0:
            yield from moves


def held_back(state):
    """Yield tuples (grant, move, rows) of the grants that are held back, with the first move that is not safe."""
    check_state(state)
    grants = moves_by_grant(state)
    for grant in list(grants):
        bad = unsafe_moves(state, grants[grant])
        if len(bad) > 0:
            yield grant, bad[0], unsafe_set(state >> bad[0])


def careful_search(program, sizes):
    """The search through all states that are reached with care; raises as State, then TooMany."""
    empty_state(program, sizes)
    return CarefulSearch(Net(program), vector_of(program.pools, sizes))


def reached_with_care(program, sizes):
    """Yield all states that are reached by careful moves, the nearest ones first."""
    search = careful_search(program, sizes)
    net = Net(program)
    for bare in search.bare_states():
        yield State(program, sizes, net.jobs_of(bare))


def price(program, sizes):
    """How many grants are held back in the states that are reached with care."""
    return careful_search(program, sizes).price()
