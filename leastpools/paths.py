"""Paths to the statements in the code of a job [20].

A path is the index of a statement, then, if it goes on, 0 or 1 for a code
inside that statement, an index in that code, and so on.
"""

from leastpools.statements import codes_in
from leastpools.values import is_integer


def is_path(thing):
    """Whether a value has the form of a path."""
    return isinstance(thing, tuple) and len(thing) % 2 == 1 and all([is_integer(part) for part in thing])


def statement_at(code, path):
    """The statement to which a path leads, or None."""
    if not 0 <= path[0] < len(code):
        return None
    statement = code[path[0]]
    if len(path) == 1:
        return statement
    inside = codes_in(statement)
    if not 0 <= path[1] < len(inside):
        return None
    return statement_at(inside[path[1]], path[2:])


def paths_of(code):
    """Tuples (path, statement) of all statements, in the order in which they begin in the text."""
    found = []
    for index, statement in enumerate(code):
        found.append(((index,), statement))
        for side, inside in enumerate(codes_in(statement)):
            for path, inner in paths_of(inside):
                found.append(((index, side, *path), inner))
    return found


def replaced(code, path, some):
    """The code with a tuple of statements in the place of the one to which a path leads."""
    index = path[0]
    if len(path) > 1:
        statement = code[index]
        inside = codes_in(statement)[path[1]]
        some = (with_inside(statement, path[1], replaced(inside, path[2:], some)),)
    return code[:index] + some + code[index + 1:]


def with_inside(statement, side, code):
    """A statement with another code inside it; the codes are its last parts."""
    at = len(statement) - len(codes_in(statement)) + side
    return statement[:at] + (code,) + statement[at + 1:]
