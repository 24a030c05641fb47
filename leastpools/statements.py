"""Which values are code [6], and how much waits in it."""

from leastpools.values import all_differ, first_word, is_between, is_one_of

MOST_INSIDE = 8
MOST_TAKEN = 9
MOST_REPEATS = 3
LENGTHS = {"run": 1, "take": 3, "give": 3, "either": 3, "repeat": 3, "both": 3, "call": 3}


def is_code(code, pools, callees, depth=0, taken=()):
    """Whether a value is code, for pools and jobs that may be called.

    Depth is the number of codes around it; taken are the amounts of the take
    of which it is the code, and nothing for all other code.
    """
    if not isinstance(code, tuple) or depth > MOST_INSIDE:
        return False
    left = {pool: number for pool, number in taken}
    for statement in code:
        word = first_word(statement)
        if word not in LENGTHS or len(statement) != LENGTHS[word]:
            return False
        if word == "give":
            if not is_give(statement, left):
                return False
            left[statement[1]] = left[statement[1]] - statement[2]
        elif not is_statement(statement, pools, callees, depth):
            return False
    return True


def is_give(statement, left):
    """Whether so much can be given back early; left is what the block still has."""
    _, pool, number = statement
    return is_one_of(pool, left) and is_between(number, 1, left[pool])


def is_statement(statement, pools, callees, depth):
    """Whether a statement of the right length, no give, is right."""
    word = statement[0]
    if word == "run":
        return True
    if word == "call":
        return is_one_of(statement[1], callees) and is_one_of(statement[2], pools)
    if word == "take":
        if not are_taken(statement[1], pools):
            return False
        return is_code(statement[2], pools, callees, depth + 1, statement[1])
    if word == "repeat":
        return is_between(statement[1], 1, MOST_REPEATS) and is_code(statement[2], pools, callees, depth + 1)
    return all([is_code(code, pools, callees, depth + 1) for code in statement[1:]])


def are_taken(amounts, pools):
    """Whether a value tells what a take takes: tuples (pool, number) of different pools."""
    if not isinstance(amounts, tuple) or len(amounts) == 0:
        return False
    for row in amounts:
        if not isinstance(row, tuple) or len(row) != 2:
            return False
        if not is_one_of(row[0], pools) or not is_between(row[1], 1, MOST_TAKEN):
            return False
    return all_differ([row[0] for row in amounts])


def codes_in(statement):
    """The codes that stand right inside a statement."""
    word = statement[0]
    if word in ("either", "both"):
        return [statement[1], statement[2]]
    if word in ("take", "repeat"):
        return [statement[2]]
    return []


def waits_of(code, waits):
    """How many waits code has when it is written out; waits tells it of the jobs ahead."""
    return sum([waits_in(statement, waits) for statement in code])


def waits_in(statement, waits):
    """How many waits a statement has when it is written out."""
    word = statement[0]
    if word == "call":
        return 1 + waits[statement[1]]
    inside = sum([waits_of(code, waits) for code in codes_in(statement)])
    if word == "repeat":
        return statement[1] * inside
    if word in ("take", "both"):
        return 1 + inside
    return inside


def boths_of(code, boths):
    """How many boths stand inside one another in code; boths tells it of the jobs ahead."""
    return max([boths_in(statement, boths) for statement in code], default=0)


def boths_in(statement, boths):
    """How many boths stand inside one another in a statement."""
    if statement[0] == "call":
        return boths[statement[1]]
    inside = max([boths_of(code, boths) for code in codes_in(statement)], default=0)
    if statement[0] == "both":
        return 1 + inside
    return inside
