"""States from which all jobs that are there can be brought to their ends [17], [18]."""

from leastpools.falling import Descent
from leastpools.positions import inside_of, is_shaped, is_strand
from leastpools.programs import check_program
from leastpools.sizes import Sizes
from leastpools.strands import free_of
from leastpools.stuck import check_state
from leastpools.values import is_integer
from leastpools.vectors import added, is_within, sizes_of, times


def falls(program, name, position):
    """Tuples (strand, rows) with the falls of the strands, as tuples (need, given) of Sizes."""
    check_program(program)
    code = program.code(name)
    code.check(position)
    return [(strand, in_sizes(program.pools, rows)) for strand, rows in code.falls_at(position)]


def in_sizes(pools, rows):
    """Falls with Sizes in the place of vectors."""
    return [(sizes_of(pools, need), sizes_of(pools, given)) for need, given in rows]


def falls_of(state):
    """A dict from the rows (name, position, strand) of a state to tuples (falls, rows right inside).

    A row stands for all jobs of the name at the position, which give back together.
    """
    told = {}
    for (name, position), many in state.jobs_by_position().items():
        for strand, rows in state.program.code(name).falls_at(position):
            together = [(need, times(given, many)) for need, given in rows]
            inside = [(name, position, part) for part in inside_of(position, strand)]
            told[(name, position, strand)] = (together, inside)
    return told


def descent_of(state):
    """The strands of a state, none of which has fallen yet."""
    return Descent(falls_of(state), free_of(state))


def safe_order(state):
    """All falls that ever are possible, in an order in which they are."""
    check_state(state)
    return [(*row, index) for row, index in descent_of(state).fall_all()]


def unsafe_set(state):
    """The strands that never come to be over, each with the fall that is not possible."""
    check_state(state)
    descent = descent_of(state)
    descent.fall_all()
    return [(*row, descent.index_of(row)) for row in descent.left()]


def is_safe(state):
    """Whether all strands can come to be over."""
    return len(unsafe_set(state)) == 0


def is_fall(descent, thing):
    """Whether a value is a tuple (name, position, strand, index) of one of the falls."""
    if not isinstance(thing, tuple) or len(thing) != 4 or not isinstance(thing[0], str):
        return False
    # The form comes first: True is equal to 1, and a list is no key.
    if not is_shaped(thing[1]) or not is_strand(thing[2]) or not is_integer(thing[3]):
        return False
    return descent.knows(thing[:3], thing[3])


def lets_safe(state, thing):
    """Whether a value is a list of all falls in an order in which each is possible."""
    check_state(state)
    if not isinstance(thing, list):
        return False
    descent = descent_of(state)
    for fall in thing:
        if not is_fall(descent, fall) or descent.index_of(fall[:3]) != fall[3]:
            return False
        if not descent.can_fall(fall[:3]):
            return False
        descent.fall(fall[:3])
    return len(descent.left()) == 0


def lets_unsafe(state, thing):
    """Whether a value shows that some strands never come to be over."""
    check_state(state)
    told = falls_of(state)
    descent = Descent(told, free_of(state))
    if not isinstance(thing, list) or len(thing) == 0 or not all([is_fall(descent, fall) for fall in thing]):
        return False
    named = {fall[:3]: fall[3] for fall in thing}
    if len(named) != len(thing):
        return False
    free = free_behind(state, told, named)
    return all([stays_up(told, row, named, free) for row in named])


def free_behind(state, told, named):
    """What is free if the named strands have done the falls ahead of their index, and all others all."""
    free = free_of(state)
    for row in told:
        rows = told[row][0]
        if row in named:
            rows = rows[:named[row]]
        for _, given in rows:
            free = added(free, given)
    return free


def stays_up(told, row, named, free):
    """Whether a named strand cannot do its fall with this free, or waits for a named one inside it."""
    rows, inside = told[row]
    if named[row] == 0 and any([part in named for part in inside]):
        return True
    return not is_within(rows[named[row]][0], free)


def lone_need(program):
    """The greatest need of the takes of all jobs with limits of at least 1."""
    check_program(program)
    need = Sizes({})
    for name in program.names():
        if program.limit(name) > 0:
            need = need | sizes_of(program.pools, program.code(name).vector_needed())
    return need
