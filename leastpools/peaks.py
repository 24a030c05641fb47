"""What a run needs at the most [28]: what all jobs hold ahead of a take and what it wants."""

from leastpools.grids import caps
from leastpools.vectors import vector_of
from leastpools.walks import Walk


def followed(program, moves):
    """A tuple (peak, jobs, index): moves done with the caps, up to the first one that is impossible.

    The peak is a vector, jobs are those behind the moves, the index that of
    the impossible move, or None.
    """
    walk = Walk(program, vector_of(program.pools, caps(program)))
    for index, move in enumerate(moves):
        if not walk.goes(move):
            return (walk.most_used(), walk.jobs_now(), index)
    return (walk.most_used(), walk.jobs_now(), None)
