"""The good sizes that cost least [30]."""

from leastpools.boxes import are_boxes, lies_in_one, limits_of_boxes
from leastpools.covers import Cover
from leastpools.errors import InvalidSizes, TooMany
from leastpools.grids import MOST_ON_GRID, caps, good_vectors
from leastpools.programs import check_program
from leastpools.sizes import Sizes
from leastpools.vectors import greater, how_many_between, lesser, sizes_of, vector_of, vectors_between
from leastpools.verdicts import lets_verdict, verdict


def check_sizes(sizes):
    """Raise InvalidSizes unless a value is a Sizes object."""
    if not isinstance(sizes, Sizes):
        raise InvalidSizes(sizes)


def cost(program, costs, sizes):
    """What sizes cost."""
    check_program(program)
    check_sizes(costs)
    check_sizes(sizes)
    return cost_of(vector_of(program.pools, costs), vector_of(program.pools, sizes))


def cost_of(prices, vector):
    """What amounts cost with these prices."""
    return sum([price * amount for price, amount in zip(prices, vector)])


class Choice:
    """The sizes that are asked about: with at least what given has, and at most the caps, or given, if that is more."""

    def __init__(self, program, costs, given):
        check_program(program)
        check_sizes(costs)
        check_sizes(given)
        self._program = program
        self._greatest = vector_of(program.pools, caps(program))
        lowest = vector_of(program.pools, given)
        highest = greater(lowest, self._greatest)
        if how_many_between(lowest, highest) > MOST_ON_GRID:
            raise TooMany(MOST_ON_GRID)
        self._lowest = lesser(lowest, self._greatest)
        prices = vector_of(program.pools, costs)
        self._costs = {vector: cost_of(prices, vector) for vector in vectors_between(lowest, highest)}

    def cheapest_vectors(self):
        """The good ones that cost least, as vectors, in order."""
        # Cut at the caps they are as many, and in the same order.
        told = good_vectors(self._program, self._lowest)
        good = [vector for vector, is_good in zip(list(self._costs), list(told.values())) if is_good]
        least = min([self._costs[vector] for vector in good])
        return [vector for vector in good if self._costs[vector] == least]

    def others(self, some):
        """All others that cost at most as much as some of them, in order."""
        most = max([self._costs[vector] for vector in some])
        return [vector for vector in self._costs if self._costs[vector] <= most and vector not in some]

    def boxes_over(self, vectors):
        """Boxes in which all of some bad ones lie; none of the boxes can be left out."""
        target = 0
        for index, vector in enumerate(self._costs):
            if vector in vectors:
                target = target | (1 << index)
        return Cover(self._program, self._lowest).boxes_over(target)

    def vectors_told(self, thing):
        """The vectors of a list of such sizes of one cost, in order, each once; None if a value is none."""
        if not isinstance(thing, list) or len(thing) == 0 or not all([isinstance(sizes, Sizes) for sizes in thing]):
            return None
        vectors = [vector_of(self._program.pools, sizes) for sizes in thing]
        # Told sizes have nothing of pools that the program does not have.
        if [sizes_of(self._program.pools, vector) for vector in vectors] != thing:
            return None
        if not all([vector in self._costs for vector in vectors]):
            return None
        if sorted(list({vector: True for vector in vectors})) != vectors:
            return None
        if len({self._costs[vector]: True for vector in vectors}) > 1:
            return None
        return vectors

    def lie_in_boxes(self, vectors, boxes_told):
        """Whether each of some vectors lies in one of some boxes."""
        rows = limits_of_boxes(self._program, boxes_told)
        return all([lies_in_one(rows, vector, self._greatest) for vector in vectors])


def cheapest(program, costs, given):
    """The good sizes that cost least of those with at least what given has."""
    vectors = Choice(program, costs, given).cheapest_vectors()
    return [sizes_of(program.pools, vector) for vector in vectors]


def cheapest_paper(program, costs, given):
    """A tuple of these, tables that show that they are good, and boxes of the others that cost at most as much."""
    choice = Choice(program, costs, given)
    vectors = choice.cheapest_vectors()
    told = [sizes_of(program.pools, vector) for vector in vectors]
    return (told, [verdict(program, sizes)[1] for sizes in told], choice.boxes_over(choice.others(vectors)))


def lets_cheapest(program, costs, given, thing):
    """Whether a value shows what the good sizes are that cost least."""
    choice = Choice(program, costs, given)
    if not isinstance(thing, tuple) or len(thing) != 3:
        return False
    told, verdicts, boxes_told = thing
    vectors = choice.vectors_told(told)
    if vectors is None or not isinstance(verdicts, list) or len(verdicts) != len(told):
        return False
    if not are_boxes(program, boxes_told) or not choice.lie_in_boxes(choice.others(vectors), boxes_told):
        return False
    return all([lets_verdict(program, sizes, ("good", rows)) for sizes, rows in zip(told, verdicts)])
