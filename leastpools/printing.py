"""From a program to its text [7]."""

from leastpools.programs import check_program

INDENT = "  "


def format_program(program):
    """The text of a program."""
    check_program(program)
    lines = [spaced(["pools", *program.pools]) + ";"]
    for name, limit, code in program.jobs:
        lines.extend([spaced(["job", name, "limit", str(limit), "{"]), *inner_lines(code), "}"])
    return "\n".join([*lines, ""])


def spaced(words):
    """Words, separated by single spaces."""
    return " ".join(words)


def inner_lines(code):
    """The lines of what is in a block."""
    lines = []
    for statement in code:
        lines.extend(lines_of(statement))
    return [INDENT + line for line in lines]


def lines_of(statement):
    """The lines of a statement."""
    word = statement[0]
    if word == "either":
        return lines_of_two(statement, "or")
    if word == "both":
        return lines_of_two(statement, "and")
    if word == "take":
        amounts = [f"{pool} {number}" for pool, number in statement[1]]
        return [spaced([word, *amounts, "{"]), *inner_lines(statement[2]), "}"]
    if word == "repeat":
        return [spaced([word, str(statement[1]), "{"]), *inner_lines(statement[2]), "}"]
    return [spaced(words_of(statement)) + ";"]


def words_of(statement):
    """The words of a statement that has no block."""
    word = statement[0]
    if word == "give":
        return [word, statement[1], str(statement[2])]
    if word == "call":
        return [word, statement[1], "on", statement[2]]
    return [word]


def lines_of_two(statement, between):
    """The lines of a statement with two blocks."""
    word, first, second = statement
    return [spaced([word, "{"]), *inner_lines(first), spaced(["}", between, "{"]), *inner_lines(second), "}"]
