"""Limits of jobs as unknowns: for which of them sizes are good [19]."""

from leastpools.errors import InvalidLimits, InvalidSizes, TooMany
from leastpools.masks import Masks, reach_of, unset_in
from leastpools.nets import Net
from leastpools.programs import GREATEST_LIMIT, Program, check_program
from leastpools.searching import Search
from leastpools.sizes import Sizes
from leastpools.values import is_between
from leastpools.vectors import is_within, vector_of, vectors_to, with_amount
from leastpools.verdicts import lets_verdict, verdict

MOST_AMOUNTS = 6


def endless_from(program, sizes):
    """The limit that is as good as any greater one."""
    check_program(program)
    if not isinstance(sizes, Sizes):
        raise InvalidSizes(sizes)
    total = sum(list(vector_of(program.pools, sizes)))
    if total > MOST_AMOUNTS:
        raise TooMany(MOST_AMOUNTS)
    return max(1, total)


def are_limits_up_to(program, thing, most):
    """Whether a value is a tuple of integers from 0 to the most, one for each job."""
    if not isinstance(thing, tuple) or len(thing) != len(program):
        return False
    return all([is_between(limit, 0, most) for limit in thing])


def with_limits(program, limits):
    """The program with other limits."""
    check_program(program)
    if not are_limits_up_to(program, limits, GREATEST_LIMIT):
        raise InvalidLimits(limits)
    jobs = [(name, limit, code) for (name, _, code), limit in zip(program.jobs, limits)]
    return Program(program.pools, tuple(jobs))


def told_limits(program, sizes):
    """A dict from all limits up to `endless_from`, in order, to whether sizes are good with them."""
    most = endless_from(program, sizes)
    highest = tuple([most for _ in program.jobs])
    net = Net(with_limits(program, highest))
    search = Search(net, vector_of(program.pools, sizes))
    masks = Masks([0 for _ in highest], highest)
    # A state can be there with just the limits that are at least its counts.
    counts = [masks.at_least(net.counts_of(bare)) for bare in search.bare_states()]
    edges = [[(counts[later], later, peak is not None) for peak, later in row] for row in search.edges()]
    reach = reach_of(edges, masks)
    bad = 0
    for index, mask in enumerate(reach):
        if search.is_dead(index):
            bad = bad | mask
    return unset_in(bad, vectors_to(highest))


def changed_by(limits, told, by):
    """What is told of the limits that are by 1, or by -1, greater at one place, where they are told."""
    near = [with_amount(limits, at, limit + by) for at, limit in enumerate(limits)]
    return [told[one] for one in near if one in told]


def greatest_good(told):
    """The good limits of which no greater ones are good."""
    return [limits for limits in told if told[limits] and not any(changed_by(limits, told, 1))]


def least_bad(told):
    """The bad limits of which no smaller ones are bad."""
    return [limits for limits in told if not told[limits] and all(changed_by(limits, told, -1))]


def greatest_limits(program, sizes):
    """Tuples with a limit for each job, None for endless, up to one of which limits are good."""
    most = endless_from(program, sizes)
    told = told_limits(program, sizes)
    return [tuple([endless(limit, most) for limit in limits]) for limits in greatest_good(told)]


def endless(limit, most):
    """A limit, None if it is as good as any greater one."""
    if limit == most:
        return None
    return limit


def limits_paper(program, sizes):
    """Verdicts for the greatest good limits and for the least bad ones."""
    told = told_limits(program, sizes)
    papers = []
    for some in (greatest_good(told), least_bad(told)):
        papers.append([(limits, verdict(with_limits(program, limits), sizes)[1]) for limits in some])
    good, bad = papers
    return (good, bad)


def lets_limits(program, sizes, thing):
    """Whether a value shows which limits are good and which are not."""
    most = endless_from(program, sizes)
    if not isinstance(thing, tuple) or len(thing) != 2:
        return False
    if not all([is_list_of_rows(program, most, part) for part in thing]):
        return False
    good, bad = thing
    for limits in vectors_to([most for _ in program.jobs]):
        is_told_good = any([is_within(limits, row[0]) for row in good])
        if not is_told_good and not any([is_within(row[0], limits) for row in bad]):
            return False
    return are_right(program, sizes, "good", good) and are_right(program, sizes, "stuck", bad)


def is_list_of_rows(program, most, thing):
    """Whether a value is a list of tuples that begin with limits."""
    if not isinstance(thing, list) or not all([isinstance(row, tuple) and len(row) == 2 for row in thing]):
        return False
    return all([are_limits_up_to(program, row[0], most) for row in thing])


def are_right(program, sizes, word, rows):
    """Whether what is told of some limits makes right verdicts with this word."""
    return all([lets_verdict(with_limits(program, limits), sizes, (word, told)) for limits, told in rows])
