"""Which sizes of a grid are good, worked out for all of them at once.

A mask is an integer with a bit for each vector of the grid. A state that is
reached with some sizes is reached with greater ones, too, so one search with
the greatest sizes meets all states, and masks tell where each is reached.
"""

from leastpools.vectors import vectors_to


class Masks:
    """Masks of the vectors of a grid that have at least so much."""

    def __init__(self, greatest):
        vectors = vectors_to(greatest)
        self.all_set = (1 << len(vectors)) - 1
        self._rows = []
        for pool, most in enumerate(greatest):
            self._rows.append([mask_of([row[pool] >= least for row in vectors]) for least in range(most + 1)])

    def at_least(self, vector):
        """The mask of the vectors that have at least so much; all, if the vector is None."""
        mask = self.all_set
        if vector is not None:
            for row, least in zip(self._rows, vector):
                mask = mask & row[least]
        return mask


def mask_of(answers):
    """The mask with a bit for each answer that is True."""
    mask = 0
    for index, answer in enumerate(answers):
        if answer:
            mask = mask | (1 << index)
    return mask


def unset_in(mask, greatest):
    """A dict from all vectors up to the greatest, in order, to whether their bit is not set in a mask."""
    return {vector: (mask >> index) & 1 == 0 for index, vector in enumerate(vectors_to(greatest))}


def masked_edges(search, masks):
    """For each state a list of tuples (mask, index of the state behind, whether it takes) of its moves."""
    rows = []
    for row in search.edges():
        rows.append([(masks.at_least(peak), later, peak is not None) for peak, later in row])
    return rows


def reach_of(edges, masks):
    """For each state the mask of the vectors with which it is reached."""
    reach = [0 for _ in edges]
    reach[0] = masks.all_set
    changed = [0]
    while len(changed) > 0:
        following = {}
        for index in changed:
            for mask, later, _ in edges[index]:
                more = reach[later] | (reach[index] & mask)
                if more != reach[later]:
                    reach[later] = more
                    following[later] = True
        changed = list(following)
    return reach


def bad_mask(search, masks):
    """The mask of the vectors with which some state is reached that has jobs, but no move that takes."""
    edges = masked_edges(search, masks)
    reach = reach_of(edges, masks)
    bad = 0
    for index in range(1, len(edges)):
        taking = 0
        for mask, _, takes in edges[index]:
            if takes:
                taking = taking | mask
        bad = bad | (reach[index] & ~taking)
    return bad
