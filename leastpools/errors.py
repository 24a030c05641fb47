"""The errors of the package, each with what it is about."""


class PoolError(ValueError):
    """What all errors about a wrong value have in common; it is never raised itself."""


class InvalidSizes(PoolError):
    """A value that is no sizes, no amount or no pool."""

    def __init__(self, value):
        PoolError.__init__(self, "these are no sizes")
        self.value = value


class InvalidProgram(PoolError):
    """A value that makes no program."""

    def __init__(self, value):
        PoolError.__init__(self, "this is no program")
        self.value = value


class InvalidText(PoolError):
    """A text that is not the text of a program."""

    def __init__(self, value):
        PoolError.__init__(self, "this is not the text of a program")
        self.value = value


class InvalidState(PoolError):
    """A value that is no state or no part of one."""

    def __init__(self, value):
        PoolError.__init__(self, "this is no state")
        self.value = value


class InvalidPosition(PoolError):
    """A value at which no job rests."""

    def __init__(self, value):
        PoolError.__init__(self, "no job rests at this position")
        self.value = value


class InvalidPaper(PoolError):
    """A value that is no right paper."""

    def __init__(self, value):
        PoolError.__init__(self, "this is no right paper")
        self.value = value


class InvalidRanks(PoolError):
    """A value that is no ranks."""

    def __init__(self, value):
        PoolError.__init__(self, "these are no ranks")
        self.value = value


class InvalidLimits(PoolError):
    """A value that is no limits."""

    def __init__(self, value):
        PoolError.__init__(self, "these are no limits")
        self.value = value


class InvalidEdit(PoolError):
    """A value that is no edit of a program."""

    def __init__(self, value):
        PoolError.__init__(self, "this is no edit")
        self.value = value


class InvalidLog(PoolError):
    """A value that is no log."""

    def __init__(self, value):
        PoolError.__init__(self, "this is no log")
        self.value = value


class InvalidFault(PoolError):
    """A value that is no word for a fault."""

    def __init__(self, value):
        PoolError.__init__(self, "this is no fault")
        self.value = value


class InvalidCommand(PoolError):
    """A value that is no command."""

    def __init__(self, value):
        PoolError.__init__(self, "this is no command")
        self.value = value


class NoJob(KeyError):
    """A name that no job has."""

    def __init__(self, value):
        KeyError.__init__(self, "there is no such job")
        self.value = value


class NoMove(LookupError):
    """A move that is not possible."""

    def __init__(self, value):
        LookupError.__init__(self, "this is no move")
        self.value = value


class NotEnough(ArithmeticError):
    """A pool of which there is less than is to be taken away."""

    def __init__(self, name):
        ArithmeticError.__init__(self, "there is not enough of a pool")
        self.name = name


class TooMany(RuntimeError):
    """More than the number that a search goes through."""

    def __init__(self, number):
        RuntimeError.__init__(self, "there are too many")
        self.number = number
