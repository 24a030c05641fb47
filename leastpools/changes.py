"""What single edits [20] make of statements and of programs."""

from leastpools.errors import InvalidProgram
from leastpools.paths import is_path, paths_of, replaced, statement_at
from leastpools.programs import Program, changed
from leastpools.values import first_word, is_one_of

# The words of edits, each with the number of its parts; those of statements
# stand in the order in which they are told of one statement.
PARTS = {"fewer": 2, "join": 3, "swap": 3, "part": 3, "early": 4, "serial": 3, "move": 4}


def is_edit_form(program, thing):
    """Whether a value has the form of an edit of a program."""
    word = first_word(thing)
    if word not in PARTS or len(thing) != PARTS[word] or thing[1] not in program:
        return False
    if len(thing) > 2 and not is_path(thing[2]):
        return False
    return len(thing) < 4 or is_one_of(thing[3], program.pools)


def behind_edit(program, edit):
    """The program behind an edit of this form, or None if the edit is none of the program."""
    name = edit[1]
    limit, code = [(limit, code) for one, limit, code in program.jobs if one == name][0]
    if edit[0] == "fewer":
        if limit < 2:
            return None
        return program_of(program.pools, with_job(program, name, limit - 1, code))
    statement = statement_at(code, edit[2])
    if statement is None:
        return None
    some = instead_of(statement, edit[0], edit[-1])
    if some is None:
        return None
    return program_of(program.pools, with_job(program, name, limit, replaced(code, edit[2], some)))


def program_of(pools, jobs):
    """The program with these pools and jobs, or None if there is none."""
    try:
        return Program(pools, jobs)
    except InvalidProgram:
        return None


def with_job(program, name, limit, code):
    """The jobs of a program, with another limit and code of one."""
    return tuple([changed(job, name, limit, code) for job in program.jobs])


def instead_of(statement, word, pool):
    """The statements in the place of one, or None if this cannot be done with it."""
    if word == "serial" and statement[0] == "both":
        return statement[1] + statement[2]
    if word == "move" and statement[0] == "call" and statement[2] != pool:
        return (("call", statement[1], pool),)
    if statement[0] != "take" or len(statement[2]) == 0:
        return None
    _, amounts, code = statement
    if word == "early":
        return given_early(amounts, code, pool)
    if code[-1][0] != "take":
        return None
    if word == "part":
        return (("take", amounts, code[:-1]), code[-1])
    if len(code) > 1:
        return None
    _, inner, rest = code[0]
    if word == "join":
        return (("take", joined(amounts, inner), rest),)
    if word == "swap":
        return (("take", inner, (("take", amounts, rest),)),)
    return None


def joined(outer, inner):
    """The amounts of the outer take with those of the inner one, then the others of the inner one."""
    more = {pool: number for pool, number in inner}
    names = [pool for pool, _ in outer]
    both = [(pool, number + more.get(pool, 0)) for pool, number in outer]
    return tuple(both + [(pool, number) for pool, number in inner if pool not in names])


def given_early(amounts, code, pool):
    """A take that gives what it has left of a pool right ahead of its last statement, or None."""
    left = sum([number for one, number in amounts if one == pool])
    left = left - sum([statement[2] for statement in code if statement[0] == "give" and statement[1] == pool])
    if left == 0:
        return None
    return (("take", amounts, code[:-1] + (("give", pool, left),) + code[-1:]),)


def edits_of_statement(program, name, path):
    """All edits that are written with a path to a statement, in order."""
    found = []
    for word, many in PARTS.items():
        if many == 3:
            found.append((word, name, path))
        if many == 4:
            found.extend([(word, name, path, pool) for pool in program.pools])
    return found


def possible_changes(program):
    """Tuples (edit, jobs behind it) for all edits of a program, in order; some of the jobs may make no program."""
    found = []
    for name, limit, code in program.jobs:
        if limit > 1:
            found.append((("fewer", name), with_job(program, name, limit - 1, code)))
        for path, statement in paths_of(code):
            for edit in edits_of_statement(program, name, path):
                some = instead_of(statement, edit[0], edit[-1])
                if some is not None:
                    found.append((edit, with_job(program, name, limit, replaced(code, path, some))))
    return found


class Variants:
    """A program and those behind lists of edits of it, each made once.

    Different lists often lead to one program. It is told by its key, a text.
    """

    def __init__(self, program):
        self._pools = program.pools
        self._programs = {str(program.jobs): program}
        self._edits = {}

    def first_key(self):
        """The key of the program itself."""
        return list(self._programs)[0]

    def program_at(self, key):
        """The program with a key."""
        return self._programs[key]

    def keys_by_edit(self, key):
        """A dict from all edits of the program with a key, in order, to the keys of the programs behind them."""
        if key not in self._edits:
            found = list(possible_changes(self._programs[key]))
            rows = [(edit, self._key_of(jobs)) for edit, jobs in found]
            self._edits[key] = {edit: later for edit, later in rows if later is not None}
        return {edit: later for edit, later in self._edits[key].items()}

    def _key_of(self, jobs):
        # None if the jobs make no program.
        key = str(jobs)
        if key not in self._programs:
            self._programs[key] = program_of(self._pools, jobs)
        if self._programs[key] is None:
            return None
        return key

    def key_behind(self, thing):
        """The key of the program behind a list of edits, or None if a value is no such list."""
        if not isinstance(thing, list):
            return None
        key = self.first_key()
        for edit in thing:
            # The form comes first: True is equal to 1, and a list is no key.
            if key is None or not is_edit_form(self._programs[key], edit):
                return None
            key = self.keys_by_edit(key).get(edit, None)
        return key
