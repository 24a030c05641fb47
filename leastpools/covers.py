"""Boxes [29] over bad sizes, found with one search for all sizes."""

from leastpools.grids import caps
from leastpools.labels import Labels
from leastpools.masks import Masks, dead_masks
from leastpools.nets import Net
from leastpools.strands import are_stuck
from leastpools.vectors import is_within, sizes_of, vector_of, vectors_between, with_amount


class Cover:
    """The sizes from the lowest ones to the caps, and the runs that get stuck there.

    A mask [masks.py] has a bit for each of these sizes.
    """

    def __init__(self, program, lowest):
        self._program = program
        self._net = Net(program)
        self._greatest = vector_of(program.pools, caps(program))
        self._vectors = vectors_between(lowest, self._greatest)
        self._masks = Masks(lowest, self._greatest)
        self._labels = Labels(self._net, self._greatest)
        self._bare_states = self._labels.bare_states()
        self._dead = dead_masks(self._labels.edges(), self._masks)

    def bad(self):
        """The mask of the sizes that are bad."""
        bad = 0
        for mask in self._dead:
            bad = bad | mask
        return bad

    def boxes_over(self, target):
        """Boxes in which all sizes of a mask lie, which are bad; none of the boxes can be left out."""
        left = target
        rows = []
        for index, vector in enumerate(self._vectors):
            if (left >> index) & 1 == 1:
                bare = self._dead_at(index)
                low = [peak for peak in self._labels.peaks_to(bare) if is_within(peak, vector)][0]
                high = self._raised(bare, vector)
                mask = self._masks.at_least(low) & self._masks.at_most(high)
                left = left & ~mask
                rows.append((mask, (bare, low, high)))
        return [self._box(bare, low, high) for bare, low, high in without_needless(rows, target)]

    def _dead_at(self, index):
        # The nearest bare state that is reached with these sizes and has jobs, but no move that takes.
        return [bare for bare, mask in zip(self._bare_states, self._dead) if (mask >> index) & 1 == 1][0]

    def _raised(self, bare, vector):
        # Sizes as great as can be, one pool after another, with which there still is a stuck strand.
        jobs = self._net.jobs_of(bare)
        for at, most in enumerate(self._greatest):
            more = with_amount(vector, at, vector[at] + 1)
            while vector[at] < most and are_stuck(self._program, jobs, more):
                vector = more
                more = with_amount(vector, at, vector[at] + 1)
        return vector

    def _box(self, bare, low, high):
        ends = {}
        for pool, amount, most in zip(self._program.pools, high, self._greatest):
            ends[pool] = amount
            if amount == most:
                ends[pool] = None
        moves = [self._net.move_of(move) for move in self._labels.moves_to(bare, low)]
        return (sizes_of(self._program.pools, low), ends, moves)


def without_needless(rows, target):
    """What tuples (mask, thing) tell of, without those that are not needed to have all of a mask."""
    # The masks differ: each has something that those ahead of it do not have.
    kept = {mask: thing for mask, thing in rows}
    for mask, _ in rows:
        others = 0
        for one in kept:
            if one != mask:
                others = others | one
        if (target & ~others) == 0:
            kept = {one: kept[one] for one in kept if one != mask}
    return list(kept.values())
