"""Which sizes of a grid are good, worked out for all of them at once.

A mask is an integer with a bit for each vector of the grid. A state that is
reached with some sizes is reached with greater ones, too, so one search with
the greatest sizes meets all states, and masks tell where each is reached.
"""

from leastpools.vectors import vectors_between


class Masks:
    """Masks of the vectors from the lowest to the greatest one."""

    def __init__(self, lowest, greatest):
        vectors = vectors_between(lowest, greatest)
        self.all_set = (1 << len(vectors)) - 1
        self._lowest = lowest
        # For each pool the masks of at least its lowest amount, one more, and so on; the last one is empty.
        self._rows = []
        for pool, (least, most) in enumerate(zip(lowest, greatest)):
            amounts = [vector[pool] for vector in vectors]
            self._rows.append([mask_of([amount >= one for amount in amounts]) for one in range(least, most + 2)])

    def at_least(self, vector):
        """The mask of the vectors that have at least so much; all, if the vector is None."""
        mask = self.all_set
        if vector is not None:
            for row, lowest, amount in zip(self._rows, self._lowest, vector):
                mask = mask & row[min(max(0, amount - lowest), len(row) - 1)]
        return mask

    def at_most(self, vector):
        """The mask of the vectors that have at most so much; an amount that is None is no end."""
        mask = self.all_set
        for row, lowest, amount in zip(self._rows, self._lowest, vector):
            if amount is not None:
                mask = mask & ~row[min(max(0, amount + 1 - lowest), len(row) - 1)]
        return mask


def mask_of(answers):
    """The mask with a bit for each answer that is True."""
    mask = 0
    for index, answer in enumerate(answers):
        if answer:
            mask = mask | (1 << index)
    return mask


def unset_in(mask, vectors):
    """A dict from some vectors, in order, to whether their bit is not set in a mask."""
    return {vector: (mask >> index) & 1 == 0 for index, vector in enumerate(vectors)}


def masked_edges(edges, masks):
    """For each state a list of tuples (mask, index of the state behind, whether it takes) of its moves."""
    known = {}
    rows = []
    for row in edges:
        masked = []
        for peak, later in row:
            if peak not in known:
                known[peak] = masks.at_least(peak)
            masked.append((known[peak], later, peak is not None))
        rows.append(masked)
    return rows


def reach_of(edges, masks):
    """For each state the mask of the vectors with which it is reached."""
    reach = [0 for _ in edges]
    reach[0] = masks.all_set
    changed = [0]
    while len(changed) > 0:
        following = {}
        for index in changed:
            for mask, later, _ in edges[index]:
                more = reach[later] | (reach[index] & mask)
                if more != reach[later]:
                    reach[later] = more
                    following[later] = True
        changed = list(following)
    return reach


def dead_masks(edges, masks):
    """For each state the mask of the vectors with which it is reached and has jobs, but no move that takes."""
    edges = masked_edges(edges, masks)
    reach = reach_of(edges, masks)
    # The state without jobs stands first.
    dead = [0]
    for index in range(1, len(edges)):
        taking = 0
        for mask, _, takes in edges[index]:
            if takes:
                taking = taking | mask
        dead.append(reach[index] & ~taking)
    return dead


def bad_mask(edges, masks):
    """The mask of the vectors with which some state is reached that has jobs, but no move that takes."""
    bad = 0
    for mask in dead_masks(edges, masks):
        bad = bad | mask
    return bad
