"""What the runs to each state need at the least, for all sizes at once [28]."""

from leastpools.errors import InvalidSizes, InvalidState, NoMove
from leastpools.grids import caps
from leastpools.labels import Labels
from leastpools.nets import Net
from leastpools.peaks import followed
from leastpools.programs import check_program
from leastpools.sizes import Sizes
from leastpools.states import are_within_limits
from leastpools.vectors import greater, is_within, sizes_of, vector_of


def peak(program, moves):
    """The greatest sum of what all jobs hold ahead of a take and what it wants."""
    check_program(program)
    if not isinstance(moves, list):
        raise NoMove(moves)
    greatest, _, index = followed(program, moves)
    if index is not None:
        raise NoMove(moves[index])
    return sizes_of(program.pools, greatest)


def labels_of(program):
    """The search through all states with the caps; raises TooMany."""
    return Labels(Net(program), vector_of(program.pools, caps(program)))


def gates(program):
    """Tuples (jobs, list of gates) of all states, the nearest ones first."""
    check_program(program)
    net = Net(program)
    labels = labels_of(program)
    rows = []
    for bare in labels.bare_states():
        vectors = labels.peaks_to(bare)
        rows.append((net.jobs_of(bare), [sizes_of(program.pools, vector) for vector in vectors]))
    return rows


def gate_run(program, jobs, sizes):
    """Moves to the state with these jobs, with the first gate that fits sizes as their peak; None if none does."""
    check_program(program)
    labels = labels_of(program)
    if not are_within_limits(program, jobs):
        raise InvalidState(jobs)
    if not isinstance(sizes, Sizes):
        raise InvalidSizes(sizes)
    net = Net(program)
    bare = net.bare_of(jobs)
    amounts = vector_of(program.pools, sizes)
    for vector in labels.peaks_to(bare):
        if is_within(vector, amounts):
            return [net.move_of(move) for move in labels.moves_to(bare, vector)]
    return None


def lets_gates(program, thing):
    """Whether a value is a closed table of entries."""
    check_program(program)
    if not isinstance(thing, list) or not all([is_row(program, row) for row in thing]):
        return False
    net = Net(program)
    table = {}
    for jobs, entries in thing:
        table.setdefault(net.bare_of(jobs), []).extend([vector_of(program.pools, one) for one in entries])
    nothing = tuple([0 for _ in program.pools])
    if nothing not in table.get((), []):
        return False
    greatest = vector_of(program.pools, caps(program))
    return all([is_closed(table, bare, net.steps(bare, greatest)) for bare in table])


def is_row(program, thing):
    """Whether a value is a tuple (jobs, list of Sizes)."""
    if not isinstance(thing, tuple) or len(thing) != 2 or not are_within_limits(program, thing[0]):
        return False
    return isinstance(thing[1], list) and all([isinstance(one, Sizes) for one in thing[1]])


def is_closed(table, bare, steps):
    """Whether the states behind the moves from a state have entries that are small enough."""
    for _, need, later in steps:
        for vector in table[bare]:
            most = vector
            if need is not None:
                most = greater(vector, need)
            if not any([is_within(one, most) for one in table.get(later, [])]):
                return False
    return True
