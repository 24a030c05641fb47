"""Plain programs and the points at which their jobs wait [16]."""

from leastpools.programs import check_program
from leastpools.sizes import is_amount
from leastpools.statements import codes_in


def is_plain(program):
    """Whether the jobs of a program wait so simply that counting them is enough."""
    codes = {name: code for name, _, code in program.jobs}
    return all([is_plain_outside(codes[name], codes) for name in codes])


def is_plain_outside(code, codes):
    """Whether code outside of all takes is plain."""
    for statement in code:
        if statement[0] in ("give", "both"):
            return False
        if statement[0] in ("take", "call"):
            if not is_plain_take(statement, codes, pool_of(statement)):
                return False
        elif not all([is_plain_outside(part, codes) for part in codes_in(statement)]):
            return False
    return True


def is_plain_inside(code, codes, pool):
    """Whether code inside a take of a pool is plain."""
    rows = [statement for statement in code if statement[0] != "run"]
    if len(rows) == 0:
        return True
    word = rows[0][0]
    if len(rows) > 1 or word in ("give", "both"):
        return False
    if word in ("take", "call"):
        return is_plain_take(rows[0], codes, pool)
    return all([is_plain_inside(part, codes, pool) for part in codes_in(rows[0])])


def is_plain_take(statement, codes, pool):
    """Whether a take or a call wants just this pool, and so do all takes inside it."""
    if statement[0] == "call":
        return statement[2] == pool and is_plain_inside(codes[statement[1]], codes, pool)
    if len(statement[1]) > 1 or statement[1][0][0] != pool:
        return False
    return is_plain_inside(statement[2], codes, pool)


def pool_of(statement):
    """The first pool that a take or a call wants."""
    if statement[0] == "call":
        return statement[2]
    return statement[1][0][0]


def points(program):
    """A dict from the names to the ascending lists of the points, or None if the program is not plain."""
    check_program(program)
    if not is_plain(program):
        return None
    return {name: points_of(program, name) for name in program.names()}


def points_of(program, name):
    """The points (pool, held, want) of a job of a plain program."""
    found = {}
    for want, held in program.code(name).takes():
        for at, pool in enumerate(program.pools):
            if want[at] > 0:
                found[(pool, held[at], want[at])] = True
    return sorted(list(found))


def own_limits(program):
    """The limits of the program, by the names of its jobs."""
    check_program(program)
    return {name: program.limit(name) for name in program.names()}


def are_limits(program, thing):
    """Whether a value is a dict from just the names of the jobs to integers of at least 0, or None."""
    if not isinstance(thing, dict) or not all([name in program for name in thing]) or len(thing) != len(program):
        return False
    return all([thing[name] is None or is_amount(thing[name]) for name in thing])
