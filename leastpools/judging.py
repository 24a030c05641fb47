"""Whether sizes are good, told by one search through all states [12]."""

from leastpools.nets import Net
from leastpools.searching import Search
from leastpools.strands import freed, rows_by_place, rows_together
from leastpools.vectors import less_by


class Judge:
    """All states that can be reached with sizes, which are told as a vector."""

    def __init__(self, program, amounts):
        self._program = program
        self._amounts = amounts
        self._net = Net(program)
        self._search = Search(self._net, amounts)

    def all_jobs(self):
        """The jobs of all states, the nearest ones first."""
        return [self._net.jobs_of(bare) for bare in self._search.bare_states()]

    def lets(self):
        """Whether no state has a stuck strand."""
        # A stuck strand stays so; when only stuck ones are left, no move takes.
        return not any([self._search.is_dead(index) for index in range(self._search.how_many())])

    def told(self):
        """The verdict: a shortest run to a state with a stuck strand, or a table of all states."""
        by_place = rows_by_place(self._program, self._net.all_places())
        rows = []
        for index, bare in enumerate(self._search.bare_states()):
            jobs = self._net.jobs_of(bare)
            told = rows_together(by_place, jobs)
            order = freed(told, less_by(self._amounts, self._net.held_in(bare)))
            if len(order) < len(told):
                return ("stuck", [self._net.move_of(move) for move in self._search.moves_to(index)])
            rows.append((jobs, order))
        return ("good", rows)
