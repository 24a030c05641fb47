"""Amounts of a few pools, as tuples of integers in the order of these pools."""

from leastpools.sizes import Sizes


def vector_of(pools, sizes):
    """The amounts of some pools."""
    return tuple([sizes[pool] for pool in pools])


def sizes_of(pools, vector):
    """The Sizes with these amounts of some pools."""
    return Sizes({pool: amount for pool, amount in zip(pools, vector)})


def added(one, other):
    """The sums."""
    return tuple([a + b for a, b in zip(one, other)])


def less_by(one, other):
    """The differences."""
    return tuple([a - b for a, b in zip(one, other)])


def times(one, many):
    """Each amount so many times."""
    return tuple([a * many for a in one])


def lesser(one, other):
    """The smaller amount of each pool."""
    return tuple([min(a, b) for a, b in zip(one, other)])


def greater(one, other):
    """The greater amount of each pool."""
    return tuple([max(a, b) for a, b in zip(one, other)])


def is_within(one, other):
    """Whether each amount is at most that of other."""
    for a, b in zip(one, other):
        if a > b:
            return False
    return True


def with_amount(vector, at, amount):
    """The vector with another amount of one pool."""
    return vector[:at] + (amount,) + vector[at + 1:]


def vectors_between(lowest, greatest):
    """All vectors with amounts from the lowest to the greatest, in ascending order."""
    rows = [()]
    for least, most in zip(lowest, greatest):
        rows = [(*row, amount) for row in rows for amount in range(least, most + 1)]
    return rows


def vectors_to(greatest):
    """All vectors with amounts from 0 to the greatest, in ascending order."""
    return vectors_between([0 for _ in greatest], greatest)


def how_many_between(lowest, greatest):
    """How many vectors have amounts from the lowest to the greatest."""
    many = 1
    for least, most in zip(lowest, greatest):
        many = many * (most - least + 1)
    return many


def how_many_to(greatest):
    """How many vectors have amounts from 0 to the greatest."""
    return how_many_between([0 for _ in greatest], greatest)
