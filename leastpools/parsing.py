"""From the text of a program to the program [7]."""

from leastpools.errors import InvalidText
from leastpools.names import is_name
from leastpools.programs import Program
from leastpools.statements import MOST_INSIDE
from leastpools.tokens import DIGITS, tokens_of

LONGEST_TEXT = 4000
# The code of the job itself stands in a block, too.
MOST_BLOCKS = MOST_INSIDE + 1


class Reader:
    """The tokens of a text, read from the first to the last."""

    def __init__(self, text):
        self._tokens = tokens_of(text)
        self._length = len(text)
        self._at = 0

    def is_over(self):
        """Whether all tokens are read."""
        return self._at == len(self._tokens)

    def ahead(self):
        """The next token, an empty text behind the last one."""
        if self.is_over():
            return ""
        return self._tokens[self._at][0]

    def place(self):
        """The index of the next token, the length of the text behind the last one."""
        if self.is_over():
            return self._length
        return self._tokens[self._at][1]

    def read_if(self, allowed):
        """Read the next token if it may stand here."""
        if not allowed:
            raise InvalidText(self.place())
        token = self.ahead()
        self._at = self._at + 1
        return token

    def read(self, token):
        """Read this token."""
        return self.read_if(self.ahead() == token)

    def read_name(self):
        """Read a name."""
        return self.read_if(is_name(self.ahead()))

    def read_number(self):
        """Read a number."""
        return int(self.read_if(not self.is_over() and self.ahead() in DIGITS))


def parse(text):
    """The program with this text."""
    if not isinstance(text, str):
        raise InvalidText(None)
    if len(text) > LONGEST_TEXT:
        raise InvalidText(LONGEST_TEXT)
    reader = Reader(text)
    pools = read_pools(reader)
    jobs = []
    while not reader.is_over():
        jobs.append(read_job(reader))
    return Program(pools, tuple(jobs))


def read_pools(reader):
    """The names of the pools, at least one."""
    reader.read("pools")
    pools = [reader.read_name()]
    while reader.ahead() != ";":
        pools.append(reader.read_name())
    reader.read(";")
    return tuple(pools)


def read_job(reader):
    """A job: a tuple (name, limit, code)."""
    reader.read("job")
    name = reader.read_name()
    reader.read("limit")
    limit = reader.read_number()
    return (name, limit, read_block(reader, 1))


def read_block(reader, depth):
    """Code in its braces; depth counts the blocks inside one another, this one included."""
    reader.read_if(reader.ahead() == "{" and depth <= MOST_BLOCKS)
    statements = []
    while reader.ahead() != "}":
        statements.append(read_statement(reader, depth))
    reader.read("}")
    return tuple(statements)


def read_statement(reader, depth):
    """A statement in the code of a block of this depth."""
    word = reader.read_if(reader.ahead() in ("run", "take", "give", "either", "repeat", "both", "call"))
    if word == "take":
        amounts = read_amounts(reader)
        return (word, amounts, read_block(reader, depth + 1))
    if word == "repeat":
        number = reader.read_number()
        return (word, number, read_block(reader, depth + 1))
    if word == "either":
        return read_two(reader, word, "or", depth + 1)
    if word == "both":
        return read_two(reader, word, "and", depth + 1)
    statement = read_short(reader, word)
    reader.read(";")
    return statement


def read_amounts(reader):
    """What a take takes, at least of one pool."""
    amounts = [read_amount(reader)]
    while reader.ahead() != "{":
        amounts.append(read_amount(reader))
    return tuple(amounts)


def read_amount(reader):
    """A tuple (pool, number)."""
    pool = reader.read_name()
    return (pool, reader.read_number())


def read_two(reader, word, between, depth):
    """A statement with two blocks."""
    first = read_block(reader, depth)
    reader.read(between)
    return (word, first, read_block(reader, depth))


def read_short(reader, word):
    """A statement that has no block, up to its end."""
    if word == "run":
        return (word,)
    name = reader.read_name()
    if word == "give":
        return (word, name, reader.read_number())
    reader.read("on")
    return (word, name, reader.read_name())
