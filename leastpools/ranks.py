"""Which pools lead to which, and ranks of pools [15]."""

from leastpools.programs import check_program
from leastpools.sizes import Sizes
from leastpools.values import is_integer
from leastpools.vectors import added


def takes_in(program):
    """Tuples (held, want) of all takes, with what the strand and those around it hold, as vectors."""
    found = []
    for name in program.names():
        code = program.code(name)
        for position in code.positions():
            found.extend(takes_at(code, position))
    return found


def takes_at(code, position):
    """The same, of the takes at which a job waits at a position."""
    found = []
    held_to = {}
    for strand, want, held, _ in code.strands(position):
        # Outer strands stand ahead of those inside.
        if len(strand) > 0:
            held = added(held, held_to[strand[:-1]])
        held_to[strand] = held
        if want is not None:
            found.append((held, want))
    return found


def edges(program):
    """Tuples (one, other) of pools of which the one leads to the other, in the order of the pools."""
    check_program(program)
    leads = {}
    for held, want in takes_in(program):
        for one, some in zip(program.pools, held):
            for other, many in zip(program.pools, want):
                if some > 0 and many > 0:
                    leads[(one, other)] = True
    return [(one, other) for one in program.pools for other in program.pools if (one, other) in leads]


def greatest_want(program):
    """The greatest amount of each pool that one take wants."""
    check_program(program)
    want = Sizes({})
    for name in program.names():
        want = want | program.code(name).greatest_want
    return want


def ranks(program):
    """A dict from the pools to their ranks, or None if there are none."""
    leads = edges(program)
    told = {}
    # Whoever has a rank gets it in one of so many rounds.
    for _ in program.pools:
        for pool in program.pools:
            below = [one for one, other in leads if other == pool]
            if all([one in told for one in below]):
                told[pool] = max([told[one] + 1 for one in below], default=0)
    if len(told) < len(program.pools):
        return None
    return {pool: told[pool] for pool in program.pools}


def ring(program):
    """The shortest list of pools each of which leads to the next one; an empty list if there is none."""
    leads = {edge: True for edge in edges(program)}
    chains = [[pool] for pool in program.pools]
    for _ in program.pools:
        for chain in chains:
            if (chain[-1], chain[0]) in leads:
                return chain
        chains = [[*one, pool] for one in chains for pool in program.pools if (one[-1], pool) in leads]
    return []


def lets_ranks(program, thing):
    """Whether a value is a dict from just the pools to integers that rise along each edge."""
    leads = edges(program)
    if not isinstance(thing, dict) or not all([isinstance(pool, str) for pool in thing]):
        return False
    if sorted(list(thing)) != sorted(list(program.pools)):
        return False
    if not all([is_integer(thing[pool]) for pool in thing]):
        return False
    return all([thing[one] < thing[other] for one, other in leads])
