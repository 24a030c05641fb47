"""Boxes of bad sizes, and an atlas of all good ones [29]."""

from leastpools.covers import Cover
from leastpools.errors import InvalidPaper, InvalidSizes
from leastpools.gates import gates, lets_gates
from leastpools.grids import caps, check_grid
from leastpools.masks import Masks
from leastpools.nets import Net
from leastpools.peaks import followed
from leastpools.programs import check_program
from leastpools.sizes import Sizes
from leastpools.strands import are_stuck
from leastpools.values import is_integer
from leastpools.vectors import is_within, lesser, vector_of, vectors_to


def are_ends(program, low, thing):
    """Whether a value is a dict from just the pools to integers of at least what low has, or None."""
    if not isinstance(thing, dict) or not all([isinstance(pool, str) for pool in thing]):
        return False
    if sorted(list(thing)) != sorted(list(program.pools)):
        return False
    return all([end is None or (is_integer(end) and end >= low[pool]) for pool, end in thing.items()])


def greatest_in(program, low, ends):
    """The greatest amounts of a box, as a vector; where there is no end, more than these changes nothing."""
    told = []
    most = caps(program)
    for pool in program.pools:
        amount = ends[pool]
        if amount is None:
            amount = max(most[pool], low[pool])
        told.append(amount)
    return told


def lets_box(program, thing):
    """Whether a value is a box."""
    check_program(program)
    if not isinstance(thing, tuple) or len(thing) != 3:
        return False
    low, ends, moves = thing
    if not isinstance(low, Sizes) or not are_ends(program, low, ends) or not isinstance(moves, list):
        return False
    peak, jobs, index = followed(program, moves)
    # A run is possible just where its peak fits.
    if index is not None or not is_within(peak, vector_of(program.pools, low)):
        return False
    return are_stuck(program, jobs, greatest_in(program, low, ends))


def are_boxes(program, thing):
    """Whether a value is a list of boxes."""
    return isinstance(thing, list) and all([lets_box(program, box) for box in thing])


def limits_of_boxes(program, boxes_told):
    """Tuples (low, high) of vectors for boxes, None in high for no end."""
    rows = []
    for low, ends, _ in boxes_told:
        rows.append((vector_of(program.pools, low), tuple([ends[pool] for pool in program.pools])))
    return rows


def lies_in_one(rows, vector, greatest):
    """Whether amounts lie in a box of which such a tuple tells; greatest are the caps."""
    cut = lesser(vector, greatest)
    for low, high in rows:
        if is_within(low, vector) and all([end is None or amount <= end for amount, end in zip(cut, high)]):
            return True
    return False


def lies_in(program, boxes_told, sizes):
    """Whether sizes lie in one of some boxes."""
    check_program(program)
    if not are_boxes(program, boxes_told):
        raise InvalidPaper(boxes_told)
    if not isinstance(sizes, Sizes):
        raise InvalidSizes(sizes)
    greatest = vector_of(program.pools, caps(program))
    return lies_in_one(limits_of_boxes(program, boxes_told), vector_of(program.pools, sizes), greatest)


def grid_of(program):
    """The caps, as a vector; raises TooMany if the grid has too many Sizes."""
    greatest = vector_of(program.pools, caps(program))
    check_grid(greatest)
    return greatest


def boxes(program):
    """Boxes in which just the bad sizes lie; none of them can be left out."""
    check_program(program)
    grid_of(program)
    cover = Cover(program, [0 for _ in program.pools])
    return cover.boxes_over(cover.bad())


def atlas(program):
    """A tuple of the gates and the boxes of a program, which tell all good sizes."""
    told = boxes(program)
    return (gates(program), told)


def lets_atlas(program, thing):
    """Whether a value is a closed table with boxes outside of which no state that it tells of is stuck."""
    check_program(program)
    greatest = grid_of(program)
    if not isinstance(thing, tuple) or len(thing) != 2:
        return False
    table, boxes_told = thing
    if not lets_gates(program, table) or not are_boxes(program, boxes_told):
        return False
    rows = limits_of_boxes(program, boxes_told)
    outside = 0
    for index, vector in enumerate(vectors_to(greatest)):
        if not lies_in_one(rows, vector, greatest):
            outside = outside | (1 << index)
    return goes_on(program, greatest, table, outside)


def goes_on(program, greatest, table, outside):
    """Whether each state with jobs of a table has a move that takes, with all sizes of a mask [masks.py] that fit."""
    net = Net(program)
    masks = Masks([0 for _ in greatest], greatest)
    for jobs, entries in table:
        bare = net.bare_of(jobs)
        there = 0
        for entry in entries:
            there = there | masks.at_least(vector_of(program.pools, entry))
        taking = 0
        for _, need, _ in net.steps(bare, greatest):
            if need is not None:
                taking = taking | masks.at_least(need)
        if len(jobs) > 0 and (there & masks.at_least(net.held_in(bare)) & outside & ~taking) != 0:
            return False
    return True
