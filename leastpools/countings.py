"""Sizes of plain programs, told by counting jobs [16]."""

from leastpools.counting import are_limits, is_plain, points
from leastpools.errors import InvalidLimits, InvalidProgram, InvalidSizes
from leastpools.programs import check_program
from leastpools.sizes import Sizes
from leastpools.sums import held_beyond, lets_rows, lets_tables, rests_of, stuck_rows, table_of
from leastpools.values import is_between, is_one_of

GREATEST_SIZE = 200


def check_plain(program, limits):
    """Raise unless a program is plain and limits are some of it."""
    check_program(program)
    if not is_plain(program):
        raise InvalidProgram(program)
    if not are_limits(program, limits):
        raise InvalidLimits(limits)


def check_pool(program, pool):
    """Raise InvalidSizes unless a value is one of the pools."""
    if not is_one_of(pool, program.pools):
        raise InvalidSizes(pool)


def check_size(size):
    """Raise InvalidSizes unless a value is a size up to the greatest one."""
    if not is_between(size, 0, GREATEST_SIZE):
        raise InvalidSizes(size)


def waits_for(program, pool):
    """The points of a pool, by the names of the jobs, as tuples (held, want)."""
    told = points(program)
    return {name: [(held, want) for one, held, want in told[name] if one == pool] for name in told}


def counted(waits, limits, size):
    """What `count` returns for the points of a pool [sums.py]."""
    tables = []
    for rest in rests_of(waits, size):
        table = table_of(waits, limits, rest, size)
        rows = stuck_rows(waits, limits, rest, size, table)
        if len(rows) > 0:
            return ("stuck", rows)
        tables.append(table)
    return ("good", tables)


def count(program, limits, pool, size):
    """Rows of jobs that get stuck together, or tables that show that none do."""
    check_plain(program, limits)
    check_pool(program, pool)
    check_size(size)
    return counted(waits_for(program, pool), limits, size)


def lets_count(program, limits, pool, size, thing):
    """Whether a value shows that some size of a pool gets stuck, or that it does not."""
    check_plain(program, limits)
    check_pool(program, pool)
    check_size(size)
    if not isinstance(thing, tuple) or len(thing) != 2:
        return False
    word, rows = thing
    if not isinstance(word, str) or not isinstance(rows, list):
        return False
    waits = waits_for(program, pool)
    if word == "stuck":
        return lets_rows(waits, limits, size, rows)
    return word == "good" and lets_tables(waits, limits, size, rows)


def sure(program, limits, pool):
    """The least size of a pool from which on nothing gets stuck, or None if there is none."""
    check_plain(program, limits)
    check_pool(program, pool)
    waits = waits_for(program, pool)
    wants = [want for name in waits for _, want in waits[name]]
    least = 0
    for rest in range(max(wants, default=0)):
        # All jobs at the points at which they hold most: this is the greatest size that leaves this rest.
        rows = [(limits[name], max(held_beyond(waits[name], rest), default=0)) for name in waits
                if limits[name] != 0 and len(held_beyond(waits[name], rest)) > 0]
        if any([limit is None and held > 0 for limit, held in rows]):
            return None
        if len(rows) > 0:
            least = max(least, rest + 1 + sum([limit * held for limit, held in rows if held > 0]))
    return least


def is_counted_good(program, limits, sizes):
    """Whether sizes are good."""
    check_plain(program, limits)
    if not isinstance(sizes, Sizes) or not all([sizes[name] <= GREATEST_SIZE for name in sizes.names()]):
        raise InvalidSizes(sizes)
    return all([counted(waits_for(program, pool), limits, sizes[pool])[0] == "good" for pool in program.pools])
