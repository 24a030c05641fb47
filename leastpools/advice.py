"""The fewest edits behind which sizes are good [20]."""

from leastpools.changes import Edited, edits_with_programs, possible_edits
from leastpools.errors import InvalidEdit, InvalidSizes
from leastpools.printing import format_program
from leastpools.programs import check_program
from leastpools.sizes import Sizes
from leastpools.values import is_between, word_of
from leastpools.verdicts import is_good, lets_verdict, verdict

MOST_EDITS = 2


def check_arguments(program, sizes, most):
    """Raise unless these are a program, sizes and a number of edits."""
    check_program(program)
    if not isinstance(sizes, Sizes):
        raise InvalidSizes(sizes)
    if not is_between(most, 0, MOST_EDITS):
        raise InvalidEdit(most)


class Judge:
    """Whether sizes are good for programs, each of which is looked at once.

    Different edits often lead to one program.
    """

    def __init__(self, sizes):
        self._sizes = sizes
        self._known = {}

    def judges_good(self, program):
        """Whether the sizes are good for a program."""
        text = format_program(program)
        if text not in self._known:
            self._known[text] = is_good(program, self._sizes)
        return self._known[text]


def first_good(program, sizes, most):
    """A tuple (list of edits, program behind them) of the first of the fewest edits, or None."""
    judge = Judge(sizes)
    if judge.judges_good(program):
        return ([], program)
    level = [([], program)]
    for _ in range(most):
        following = []
        for some, one in level:
            for edit, later in edits_with_programs(one):
                if judge.judges_good(later):
                    return ([*some, edit], later)
                following.append(([*some, edit], later))
        level = list(following)
    return None


def advice(program, sizes, most=1):
    """The first of the fewest edits behind which sizes are good, or None."""
    check_arguments(program, sizes, most)
    found = first_good(program, sizes, most)
    if found is None:
        return None
    return found[0]


def lists_up_to(program, most):
    """Tuples (list of edits, program behind them) of all lists of so many edits or fewer; none below 0."""
    if most < 0:
        return []
    found = [([], program)]
    level = [([], program)]
    for _ in range(most):
        level = [([*some, edit], later) for some, one in level for edit, later in edits_with_programs(one)]
        found.extend(level)
    return found


def stuck_rows(program, sizes, most):
    """Tuples (list of edits, moves) with runs that get stuck behind all lists of so many edits or fewer."""
    return [(some, verdict(one, sizes)[1]) for some, one in lists_up_to(program, most)]


def advice_paper(program, sizes, most=1):
    """The fewest edits behind which sizes are good, with a table, and runs that get stuck behind all fewer ones."""
    check_arguments(program, sizes, most)
    found = first_good(program, sizes, most)
    if found is None:
        return ("none", stuck_rows(program, sizes, most))
    some, later = found
    return ("advice", some, verdict(later, sizes)[1], stuck_rows(program, sizes, len(some) - 1))


def lets_advice(program, sizes, most, thing):
    """Whether a value shows what the fewest edits are, or that none help."""
    check_arguments(program, sizes, most)
    known = Edited(program)
    word = word_of(thing)
    if word == "none" and len(thing) == 2:
        return lets_tried(known, sizes, most, thing[1])
    if word != "advice" or len(thing) != 4:
        return False
    _, some, rows, tried = thing
    later = known.behind(some)
    if later is None or len(some) > most or not lets_verdict(later, sizes, ("good", rows)):
        return False
    return lets_tried(known, sizes, len(some) - 1, tried)


def lets_tried(known, sizes, most, tried):
    """Whether a value is a list of rows with runs that get stuck, one for each list of so many edits or fewer."""
    if not isinstance(tried, list) or not all([isinstance(row, tuple) and len(row) == 2 for row in tried]):
        return False
    programs = [known.behind(some) for some, _ in tried]
    if not all([one is not None for one in programs]):
        return False
    listed = {tuple(some): True for some, _ in tried}
    if most >= 0 and not lists_all(known, [], most, listed):
        return False
    return all([lets_verdict(one, sizes, ("stuck", moves)) for one, (_, moves) in zip(programs, tried)])


def lists_all(known, some, most, listed):
    """Whether a list of edits is listed, and all that begin with it and have at most so many."""
    if tuple(some) not in listed:
        return False
    if len(some) == most:
        return True
    for edit in possible_edits(known.behind(some)):
        longer = [*some, edit]
        if known.behind(longer) is not None and not lists_all(known, longer, most, listed):
            return False
    return True
