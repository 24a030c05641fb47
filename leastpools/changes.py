"""What single edits [20] make of statements and of programs."""

from leastpools.errors import InvalidProgram
from leastpools.paths import is_path, paths_of, replaced, statement_at
from leastpools.values import is_one_of, word_of

# The words of edits, each with the number of its parts; those of statements
# stand in the order in which they are told of one statement.
PARTS = {"fewer": 2, "join": 3, "swap": 3, "part": 3, "early": 4, "serial": 3, "move": 4}


def is_edit_form(program, thing):
    """Whether a value has the form of an edit of a program."""
    word = word_of(thing)
    if word not in PARTS or len(thing) != PARTS[word] or thing[1] not in program:
        return False
    if len(thing) > 2 and not is_path(thing[2]):
        return False
    return len(thing) < 4 or is_one_of(thing[3], program.pools)


def behind_edit(program, edit):
    """The program behind an edit of this form, or None if the edit is none of the program."""
    word, name = edit[:2]
    if word == "fewer":
        if program.limit(name) < 2:
            return None
        return program.with_limit(name, program.limit(name) - 1)
    code = raw_code(program, name)
    statement = statement_at(code, edit[2])
    if statement is None:
        return None
    some = instead_of(statement, word, edit[-1])
    if some is None:
        return None
    try:
        return program.with_code(name, replaced(code, edit[2], some))
    except InvalidProgram:
        return None


def raw_code(program, name):
    """The code of a job, as a tuple."""
    return [code for one, _, code in program.jobs if one == name][0]


def instead_of(statement, word, pool):
    """The statements in the place of one, or None if this cannot be done with it."""
    if word == "serial" and statement[0] == "both":
        return statement[1] + statement[2]
    if word == "move" and statement[0] == "call" and statement[2] != pool:
        return (("call", statement[1], pool),)
    if statement[0] != "take" or len(statement[2]) == 0:
        return None
    _, amounts, code = statement
    if word == "early":
        return given_early(amounts, code, pool)
    if code[-1][0] != "take":
        return None
    if word == "part":
        return (("take", amounts, code[:-1]), code[-1])
    if len(code) > 1:
        return None
    _, inner, rest = code[0]
    if word == "join":
        return (("take", joined(amounts, inner), rest),)
    if word == "swap":
        return (("take", inner, (("take", amounts, rest),)),)
    return None


def joined(outer, inner):
    """The amounts of the outer take with those of the inner one, then the others of the inner one."""
    more = {pool: number for pool, number in inner}
    names = [pool for pool, _ in outer]
    both = [(pool, number + more.get(pool, 0)) for pool, number in outer]
    return tuple(both + [(pool, number) for pool, number in inner if pool not in names])


def given_early(amounts, code, pool):
    """A take that gives what it has left of a pool right ahead of its last statement, or None."""
    left = sum([number for one, number in amounts if one == pool])
    left = left - sum([statement[2] for statement in code if statement[0] == "give" and statement[1] == pool])
    if left == 0:
        return None
    return (("take", amounts, code[:-1] + (("give", pool, left),) + code[-1:]),)


def edits_of_statement(program, name, path):
    """All edits that are written with a path to a statement, in order."""
    found = []
    for word, many in PARTS.items():
        if many == 3:
            found.append((word, name, path))
        if many == 4:
            found.extend([(word, name, path, pool) for pool in program.pools])
    return found


def possible_edits(program):
    """All values that have the form of an edit and a path that leads to a statement, in order."""
    found = []
    for name, _, code in program.jobs:
        found.append(("fewer", name))
        for path, _ in paths_of(code):
            found.extend(edits_of_statement(program, name, path))
    return found


def edits_with_programs(program):
    """Tuples (edit, program behind it) of all edits of a program, in order."""
    rows = [(edit, behind_edit(program, edit)) for edit in possible_edits(program)]
    return [(edit, later) for edit, later in rows if later is not None]


class Edited:
    """The programs behind lists of edits of a program, each made once."""

    def __init__(self, program):
        self._program = program
        self._known = {(): program}

    def behind(self, thing):
        """The program behind a list of edits, or None if a value is no such list."""
        # The form comes first: True is equal to 1, and a list is no key.
        if not isinstance(thing, list) or not all([is_edit_form(self._program, edit) for edit in thing]):
            return None
        for many in range(len(thing)):
            self._learn(tuple(thing[:many]), thing[many])
        return self._known[tuple(thing)]

    def _learn(self, some, edit):
        longer = (*some, edit)
        if longer not in self._known:
            later = None
            if self._known[some] is not None:
                later = behind_edit(self._known[some], edit)
            self._known[longer] = later
