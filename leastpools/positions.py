"""Positions and strands of jobs [8]: what can be seen from their form alone.

A number is a take at which a strand waits, a tuple (number, first, second) a
both with what its two strands do, None a strand that is over.
"""

from leastpools.values import is_integer

MOST_BOTHS = 3


def is_shaped(thing, boths=MOST_BOTHS):
    """Whether a value has the form of a position with so many boths inside one another."""
    if not isinstance(thing, tuple):
        return is_integer(thing)
    if boths == 0 or len(thing) != 3 or not is_integer(thing[0]):
        return False
    _, first, second = thing
    if first is not None and not is_shaped(first, boths - 1):
        return False
    return second is None or is_shaped(second, boths - 1)


def is_strand(thing):
    """Whether a value has the form of a strand."""
    if not isinstance(thing, tuple) or len(thing) > MOST_BOTHS:
        return False
    for part in thing:
        if not is_integer(part) or part not in (0, 1):
            return False
    return True


def order_of(position):
    """What positions are ordered by: their numbers from left to right, None as -1."""
    if position is None:
        return (-1,)
    if not isinstance(position, tuple):
        return (position,)
    number, first, second = position
    return (number, *order_of(first), *order_of(second))


def waiting_in(position, strand=()):
    """Tuples (strand, number) of all strands that wait, outer ones ahead of those inside."""
    if position is None:
        return []
    if not isinstance(position, tuple):
        return [(strand, position)]
    number, first, second = position
    inside = waiting_in(first, (*strand, 0)) + waiting_in(second, (*strand, 1))
    return [(strand, number)] + inside


def part_of(position, strand):
    """What a strand does at a position."""
    for part in strand:
        position = position[part + 1]
    return position


def takers_in(position, strand=()):
    """Tuples (strand, number) of the strands that wait at takes."""
    if position is None:
        return []
    if not isinstance(position, tuple):
        return [(strand, position)]
    return takers_in(position[1], (*strand, 0)) + takers_in(position[2], (*strand, 1))


def inside_of(position, strand):
    """The strands right inside a strand that are not over; none if it waits at a take."""
    part = part_of(position, strand)
    if not isinstance(part, tuple):
        return []
    return [(*strand, side) for side in (0, 1) if part[side + 1] is not None]
