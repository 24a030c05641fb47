"""All good sizes of a program, told by a finite grid [13]."""

from leastpools.errors import InvalidProgram, TooMany
from leastpools.masks import Masks, bad_mask, unset_in
from leastpools.nets import Net
from leastpools.programs import check_program
from leastpools.searching import Search
from leastpools.sizes import Sizes
from leastpools.vectors import (
    greater, how_many_to, is_within, lesser, sizes_of, vector_of, vectors_between, vectors_to, with_amount,
)

MOST_ON_GRID = 400


def caps(program):
    """The amounts of the pools from which on nobody waits for them."""
    check_program(program)
    total = Sizes({})
    for name in program.names():
        total = total + program.code(name).need * program.limit(name)
    return total


def good_vectors(program, lowest):
    """A dict from the vectors from the lowest to the caps, in the order of the grid, to whether they are good."""
    greatest = vector_of(program.pools, caps(program))
    search = Search(Net(program), greatest)
    masks = Masks(lowest, greatest)
    return unset_in(bad_mask(search.edges(), masks), vectors_between(lowest, greatest))


def check_grid(greatest):
    """Raise TooMany if there are too many vectors up to the greatest."""
    if how_many_to(greatest) > MOST_ON_GRID:
        raise TooMany(MOST_ON_GRID)


def is_flat(told, at, amount):
    """Whether one more of a pool than this amount changes nothing."""
    rows = [vector for vector in told if vector[at] == amount]
    return all([told[vector] == told[with_amount(vector, at, amount + 1)] for vector in rows])


def flat_from(told, at, most):
    """The least amount of a pool from which on more of it changes nothing."""
    amount = most
    while amount > 0 and is_flat(told, at, amount - 1):
        amount = amount - 1
    return amount


class Goods:
    """All good sizes of a program."""

    def __init__(self, program):
        self._caps = caps(program)
        self._program = program
        self._pools = program.pools
        self._greatest = vector_of(self._pools, self._caps)
        check_grid(self._greatest)
        self._told = good_vectors(program, [0 for _ in self._pools])
        self._good = [sizes_of(self._pools, vector) for vector in self._told if self._told[vector]]
        flat = [flat_from(self._told, at, most) for at, most in enumerate(self._greatest)]
        self._tight = sizes_of(self._pools, flat)
        self._core = self._core_of(flat)

    def _core_of(self, flat):
        # Names in ascending order, so that programs with other pools, or the
        # same ones in another order, can be compared.
        names = self._tight.names()
        good = [vector for vector in self._told if self._told[vector] and is_within(vector, flat)]
        return sorted([vector_of(names, sizes_of(self._pools, vector)) for vector in good])

    @property
    def program(self):
        """The program."""
        return self._program

    @property
    def caps(self):
        """The caps of the program."""
        return self._caps

    @property
    def tight(self):
        """The least Sizes such that it is enough to know sizes up to these."""
        return self._tight

    def __contains__(self, x):
        if not isinstance(x, Sizes):
            return False
        return self._told[lesser(vector_of(self._pools, x), self._greatest)]

    def __len__(self):
        return len(self._good)

    def __iter__(self):
        return iter(self._good)

    def __eq__(self, other):
        return isinstance(other, Goods) and self._tight == other._tight and self._core == other._core

    def grid(self):
        """Yield tuples (sizes, whether they are good) of the grid, in its order."""
        for vector in self._told:
            yield sizes_of(self._pools, vector), self._told[vector]

    def least(self):
        """The least good sizes."""
        good = [vector for vector in self._told if self._told[vector]]
        return [sizes_of(self._pools, vector) for vector in good if is_least(vector, good)]

    def anomalies(self):
        """Yield tuples (sizes, pool) of good sizes for which one more of the pool is bad."""
        for vector in self._told:
            for at, pool in enumerate(self._pools):
                more = with_amount(vector, at, vector[at] + 1)
                if self._told[vector] and not self._told.get(more, True):
                    yield sizes_of(self._pools, vector), pool

    def beyond(self, other):
        """Yield the Sizes that are good here and bad for another Goods object."""
        if not isinstance(other, Goods) or other._pools != self._pools:
            raise InvalidProgram(other)
        greatest = greater(self._greatest, other._greatest)
        check_grid(greatest)
        for vector in vectors_to(greatest):
            sizes = sizes_of(self._pools, vector)
            if sizes in self and sizes not in other:
                yield sizes


def is_least(vector, good):
    """Whether no other one of some vectors has at most as much of each pool."""
    return not any([one != vector and is_within(one, vector) for one in good])
