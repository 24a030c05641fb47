"""The fewest edits behind which sizes are good [20]."""

from leastpools.changes import Variants
from leastpools.errors import InvalidEdit, InvalidSizes
from leastpools.judging import Judge
from leastpools.programs import check_program
from leastpools.sizes import Sizes
from leastpools.values import first_word, is_between
from leastpools.vectors import vector_of
from leastpools.verdicts import lets_verdict

MOST_EDITS = 2


def check_arguments(program, sizes, most):
    """Raise unless these are a program, sizes and a number of edits."""
    check_program(program)
    if not isinstance(sizes, Sizes):
        raise InvalidSizes(sizes)
    if not is_between(most, 0, MOST_EDITS):
        raise InvalidEdit(most)


class Advisor:
    """Programs behind lists of edits, and whether sizes are good for them.

    Each program is looked at once, whatever lists lead to it.
    """

    def __init__(self, program, sizes):
        self._amounts = vector_of(program.pools, sizes)
        self._variants = Variants(program)
        self._judges = {}

    def lists_of(self, level):
        """The lists of one more edit than some: tuples (list of edits, key of the program behind it), in order."""
        found = []
        for some, key in level:
            found.extend([([*some, edit], later) for edit, later in self._variants.keys_by_edit(key).items()])
        return found

    def no_edits(self):
        """The list without edits alone, as such a list."""
        return [([], self._variants.first_key())]

    def _judge_of(self, key):
        if key not in self._judges:
            self._judges[key] = Judge(self._variants.program_at(key), self._amounts)
        return self._judges[key]

    def lets(self, key):
        """Whether the sizes are good for the program with a key."""
        return self._judge_of(key).lets()

    def papers_of(self, rows):
        """Tuples (list of edits, moves or rows) with what makes the verdicts for the programs behind them."""
        told = {}
        papers = []
        for some, key in rows:
            if key not in told:
                told[key] = self._judge_of(key).told()[1]
            papers.append((some, list(told[key])))
        return papers


def searched(advisor, most):
    """A tuple (row, rows) of the first of the fewest edits, None if there are none, and of all lists of fewer edits.

    A row is a tuple (list of edits, key of the program behind it).
    """
    level = advisor.no_edits()
    shorter = []
    for many in range(most + 1):
        for row in level:
            if advisor.lets(row[1]):
                return (row, shorter)
        shorter = shorter + level
        if many < most:
            level = advisor.lists_of(level)
    return (None, shorter)


def advice(program, sizes, most=1):
    """The first of the fewest edits behind which sizes are good, or None."""
    check_arguments(program, sizes, most)
    found, _ = searched(Advisor(program, sizes), most)
    if found is None:
        return None
    return found[0]


def advice_paper(program, sizes, most=1):
    """The fewest edits behind which sizes are good, with a table, and runs that get stuck behind all fewer ones."""
    check_arguments(program, sizes, most)
    advisor = Advisor(program, sizes)
    found, shorter = searched(advisor, most)
    tried = advisor.papers_of(shorter)
    if found is None:
        return ("none", tried)
    some, rows = advisor.papers_of([found])[0]
    return ("advice", some, rows, tried)


def lets_advice(program, sizes, most, thing):
    """Whether a value shows what the fewest edits are, or that none help."""
    check_arguments(program, sizes, most)
    variants = Variants(program)
    word = first_word(thing)
    if word == "none" and len(thing) == 2:
        return lets_tried(variants, sizes, most, thing[1])
    if word != "advice" or len(thing) != 4:
        return False
    _, some, rows, tried = thing
    key = variants.key_behind(some)
    if key is None or len(some) > most or not lets_verdict(variants.program_at(key), sizes, ("good", rows)):
        return False
    return lets_tried(variants, sizes, len(some) - 1, tried)


def lets_tried(variants, sizes, most, tried):
    """Whether a value is a list of rows with runs that get stuck, one for each list of so many edits or fewer."""
    if not isinstance(tried, list) or not all([isinstance(row, tuple) and len(row) == 2 for row in tried]):
        return False
    keys = [variants.key_behind(some) for some, _ in tried]
    if not all([key is not None for key in keys]):
        return False
    listed = {tuple(some): True for some, _ in tried}
    if most >= 0 and not lists_all(variants, [], most, listed):
        return False
    programs = [variants.program_at(key) for key in keys]
    return all([lets_verdict(one, sizes, ("stuck", moves)) for one, (_, moves) in zip(programs, tried)])


def lists_all(variants, some, most, listed):
    """Whether a list of edits is listed, and all that begin with it and have at most so many."""
    if tuple(some) not in listed:
        return False
    if len(some) == most:
        return True
    later = list(variants.keys_by_edit(variants.key_behind(some)))
    return all([lists_all(variants, [*some, edit], most, listed) for edit in later])
