"""Whether sizes are good, with papers that can be checked [12]."""

from leastpools.judging import Judge
from leastpools.states import empty_state, known_state
from leastpools.tables import Table
from leastpools.vectors import vector_of
from leastpools.walks import Walk


def judge_of(program, sizes):
    """The judge of sizes; raises as State, then TooMany."""
    empty_state(program, sizes)
    return Judge(program, vector_of(program.pools, sizes))


def reached(program, sizes):
    """Yield all states that can be reached, the nearest ones first."""
    judge = judge_of(program, sizes)
    for jobs, used in judge.all_jobs():
        yield known_state(program, sizes, jobs, used)


def verdict(program, sizes):
    """A shortest run to a state with a stuck strand, or a table of all states."""
    return judge_of(program, sizes).told()


def is_good(program, sizes):
    """Whether no state that can be reached has a stuck strand."""
    return judge_of(program, sizes).lets()


def lets_verdict(program, sizes, thing):
    """Whether a value is a right verdict."""
    empty_state(program, sizes)
    if not isinstance(thing, tuple) or len(thing) != 2:
        return False
    word, rows = thing
    if not isinstance(word, str) or not isinstance(rows, list):
        return False
    if word == "stuck":
        return lets_run(program, sizes, rows)
    return word == "good" and lets_table(program, sizes, rows)


def lets_run(program, sizes, moves):
    """Whether a list holds moves from the state without jobs to one with a stuck strand."""
    walk = Walk(program, vector_of(program.pools, sizes))
    for move in moves:
        if not walk.goes(move):
            return False
    return walk.is_stuck_now()


def lets_table(program, sizes, rows):
    """Whether a list holds rows that show that nothing gets stuck."""
    table = Table(program, sizes)
    known = {}
    for row in rows:
        bare = table.state_of(row)
        if bare is None:
            return False
        known[bare] = True
    return () in known and table.is_closed(known)
