"""Tables of all states with their orders [12], checked row by row.

Such a table has many rows of few places, so what can be told of the places
and of their strands is worked out once for all of its rows.
"""

from leastpools.nets import Net
from leastpools.positions import is_shaped
from leastpools.strands import gone_in_order, rows_of_one
from leastpools.values import is_between
from leastpools.vectors import is_within, less_by, vector_of


class Table:
    """What the rows of a table are checked against."""

    def __init__(self, program, sizes):
        self._net = Net(program)
        self._amounts = vector_of(program.pools, sizes)
        self._limits = [program.limit(name) for name in program.names()]
        self._places = {}
        for name in program.names():
            code = program.code(name)
            for position in code.positions():
                self._places[(name, position)] = (program.limit(name), len(code.strands(position)))
        self._told = rows_of_one(program, list(self._places))

    def state_of(self, row):
        """The bare state of a row (jobs, order) in which each strand can go on, or None if a value is no such row."""
        if not isinstance(row, tuple) or len(row) != 2 or not self._are_jobs(row[0]):
            return None
        jobs, order = row
        bare = self._net.bare_of(jobs)
        free = less_by(self._amounts, self._net.held_in(bare))
        if min(free) < 0 or not is_within(self._net.counts_of(bare), self._limits):
            return None
        gone = gone_in_order(self._told, jobs, free, order)
        if gone is None or len(gone) < sum([self._places[place][1] for place in jobs]):
            return None
        return bare

    def _are_jobs(self, thing):
        # Whether a value is a dict from places to numbers of jobs, none of
        # which is above the limit by itself.
        if not isinstance(thing, dict):
            return False
        for place, many in thing.items():
            # The form comes first: True is equal to 1, and a list is no key.
            if not isinstance(place, tuple) or len(place) != 2 or not isinstance(place[0], str):
                return False
            if not is_shaped(place[1]) or place not in self._places or not is_between(many, 1, self._places[place][0]):
                return False
        return True

    def is_closed(self, known):
        """Whether a dict of bare states has with each all those to which its moves lead."""
        for bare in known:
            if not all([later in known for _, _, later in self._net.steps(bare, self._amounts)]):
                return False
        return True
