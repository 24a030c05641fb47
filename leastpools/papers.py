"""Papers about programs, and reports of them [26]."""

from leastpools.careful import lone_need
from leastpools.errors import InvalidPaper, InvalidSizes, TooMany
from leastpools.grids import Goods, caps
from leastpools.limits import lets_limits, limits_paper
from leastpools.programs import Program
from leastpools.ranks import lets_ranks, ranks
from leastpools.sizes import Sizes, are_amounts
from leastpools.values import first_word
from leastpools.verdicts import lets_verdict, verdict


def check_paper_program(program):
    """Raise InvalidPaper unless a value is a Program."""
    if not isinstance(program, Program):
        raise InvalidPaper(program)


def lets_paper(program, thing):
    """Whether a value is a right paper for a program."""
    check_paper_program(program)
    word = first_word(thing)
    if word == "ranks" and len(thing) == 2:
        return lets_ranks(program, thing[1])
    if word not in ("verdict", "limits") or len(thing) != 3 or not are_amounts(thing[1]):
        return False
    if word == "verdict":
        return lets_verdict(program, Sizes(thing[1]), thing[2])
    return lets_limits_paper(program, Sizes(thing[1]), thing[2])


def lets_limits_paper(program, sizes, thing):
    """Whether a value shows which limits are good; never, if there are too many limits."""
    try:
        return lets_limits(program, sizes, thing)
    except TooMany:
        return False


def report(program):
    """Papers with verdicts for all sizes of the grid, and the ranks, if there are some."""
    check_paper_program(program)
    goods = Goods(program)
    papers = []
    for sizes, _ in goods.grid():
        papers.append(("verdict", sizes.by_name(), verdict(program, sizes)))
    told = ranks(program)
    if told is not None:
        papers.append(("ranks", told))
    return papers


def lets_report(program, thing):
    """Whether a value is a list of right papers with verdicts for all sizes of the grid."""
    check_paper_program(program)
    if not isinstance(thing, list) or not all([lets_paper(program, paper) for paper in thing]):
        return False
    goods = Goods(program)
    told = words_by_sizes(thing)
    return all([str(sizes) in told for sizes, _ in goods.grid()])


def words_by_sizes(papers):
    """A dict from the texts of the sizes of right verdicts to their words."""
    return {str(Sizes(paper[1])): paper[2][0] for paper in papers if paper[0] == "verdict"}


def good_by_report(program, rows, sizes):
    """Whether sizes are good, as a report tells it."""
    check_paper_program(program)
    if not isinstance(sizes, Sizes):
        raise InvalidSizes(sizes)
    if not lets_report(program, rows):
        raise InvalidPaper(rows)
    return words_by_sizes(rows)[str(sizes & caps(program))] == "good"


def paper_of_limits(program, amounts):
    """The paper about limits with pools of these amounts."""
    check_paper_program(program)
    sizes = Sizes(amounts)
    return ("limits", {name: amounts[name] for name in amounts}, limits_paper(program, sizes))


def floor_of(program):
    """With less of a pool than this no sizes are good: a dict of the amounts above 0."""
    check_paper_program(program)
    return lone_need(program).by_name()
