"""Whether sizes are good, with papers that can be checked [12]."""

from leastpools.nets import Net
from leastpools.searching import Search
from leastpools.states import State, empty_state
from leastpools.stuck import freeing_order, is_stuck
from leastpools.tables import Table
from leastpools.vectors import vector_of


def search_of(program, sizes):
    """The search through all states; raises as State, then TooMany."""
    empty_state(program, sizes)
    return Search(Net(program), vector_of(program.pools, sizes))


def reached(program, sizes):
    """Yield all states that can be reached, the nearest ones first."""
    search = search_of(program, sizes)
    net = Net(program)
    for bare in search.bare_states():
        yield State(program, sizes, net.jobs_of(bare))


def verdict(program, sizes):
    """A shortest run to a state with a stuck strand, or a table of all states."""
    search = search_of(program, sizes)
    net = Net(program)
    rows = []
    for index, bare in enumerate(search.bare_states()):
        state = State(program, sizes, net.jobs_of(bare))
        if is_stuck(state):
            return ("stuck", [net.move_of(move) for move in search.moves_to(index)])
        rows.append((state.jobs_by_position(), freeing_order(state)))
    return ("good", rows)


def is_good(program, sizes):
    """Whether no state that can be reached has a stuck strand."""
    search = search_of(program, sizes)
    # A stuck strand stays so; when only stuck ones are left, no move takes.
    return not any([search.is_dead(index) for index in range(len(search.bare_states()))])


def lets_verdict(program, sizes, thing):
    """Whether a value is a right verdict."""
    state = empty_state(program, sizes)
    if not isinstance(thing, tuple) or len(thing) != 2:
        return False
    word, rows = thing
    if not isinstance(word, str) or not isinstance(rows, list):
        return False
    if word == "stuck":
        return lets_run(state, rows)
    return word == "good" and lets_table(program, sizes, rows)


def lets_run(state, moves):
    """Whether a list holds moves from a state to one with a stuck strand."""
    for move in moves:
        if move not in state:
            return False
        state = state >> move
    return is_stuck(state)


def lets_table(program, sizes, rows):
    """Whether a list holds rows that show that nothing gets stuck."""
    table = Table(program, sizes)
    known = {}
    for row in rows:
        bare = table.state_of(row)
        if bare is None:
            return False
        known[bare] = True
    return () in known and table.is_closed(known)
