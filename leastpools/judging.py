"""Whether sizes are good, told by one search through all states [12]."""

from leastpools.nets import Net
from leastpools.searching import Search
from leastpools.strands import KnownRows, freed
from leastpools.vectors import less_by


class Judge:
    """All states that can be reached with sizes, which are told as a vector."""

    def __init__(self, program, amounts):
        self._program = program
        self._amounts = amounts
        self._net = Net(program)
        self._search = Search(self._net, amounts)

    def all_jobs(self):
        """Tuples (jobs, what they hold) of all states, the nearest ones first."""
        return [(self._search.jobs_at(index), self._search.used_at(index)) for index in range(self._search.how_many())]

    def lets(self):
        """Whether no state has a stuck strand."""
        # A stuck strand stays so; when only stuck ones are left, no move takes.
        return not self._search.has_dead()

    def told(self):
        """The verdict: a shortest run to a state with a stuck strand, or a table of all states."""
        known = KnownRows(self._program)
        rows = []
        for index in range(self._search.how_many()):
            jobs = self._search.jobs_at(index)
            told = known.told_of(jobs)
            order = freed(told, less_by(self._amounts, self._search.used_at(index)))
            if len(order) < len(told):
                return ("stuck", [self._net.move_of(move) for move in self._search.moves_to(index)])
            rows.append((jobs, order))
        return ("good", rows)
