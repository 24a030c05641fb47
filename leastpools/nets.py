"""Programs in numbers, for searches through many states.

A place is a name with a position; places are numbered by the jobs of the
program and by their positions. A bare state is the ascending tuple of the
places of all jobs. A bare move is a tuple (place, strand, later) of places,
later being None if the job leaves, place None if it enters.
"""

from leastpools.positions import inside_of
from leastpools.vectors import added, is_within


class Net:
    """A program in numbers."""

    def __init__(self, program):
        self._program = program
        self._places = []
        self._owners = []
        for owner, name in enumerate(program.names()):
            for position in program.code(name).positions():
                self._places.append((name, position))
                self._owners.append(owner)
        self._numbers = {place: number for number, place in enumerate(self._places)}
        self._limits = [program.limit(name) for name in program.names()]
        self._ways_in = [self._first_places(name) for name in program.names()]
        self._amounts_held = [program.code(name).vector_held(position) for name, position in self._places]
        self._takes = [self._takes_at(name, position) for name, position in self._places]

    def _first_places(self, name):
        first = self._program.code(name).first()
        return [self._numbers[(name, position)] for position in first if position is not None]

    def _takes_at(self, name, position):
        takes = []
        for strand, want, later in self._program.code(name).ways_on(position):
            takes.append((strand, want, [self._number_of(name, one) for one in later]))
        return takes

    def _number_of(self, name, position):
        if position is None:
            return None
        return self._numbers[(name, position)]

    def all_places(self):
        """All places, tuples (name, position)."""
        return list(self._places)

    def held_in(self, bare):
        """What all jobs hold."""
        total = tuple([0 for _ in self._program.pools])
        for place in bare:
            total = added(total, self._amounts_held[place])
        return total

    def steps(self, bare, sizes):
        """Tuples (move, peak, bare state behind it) of all moves, in order.

        The peak is what all jobs hold ahead of a take and what the take
        wants; None if a job enters.
        """
        return self._steps_in(bare) + self._steps_on(bare, sizes)

    def counts_of(self, bare):
        """How many jobs of each name are there."""
        counts = [0 for _ in self._limits]
        for place in bare:
            counts[self._owners[place]] = counts[self._owners[place]] + 1
        return counts

    def _steps_in(self, bare):
        counts = self.counts_of(bare)
        found = []
        for owner, limit in enumerate(self._limits):
            if counts[owner] < limit:
                for place in self._ways_in[owner]:
                    found.append(((None, (), place), None, with_place(bare, place)))
        return found

    def _steps_on(self, bare, sizes):
        held = self.held_in(bare)
        found = []
        for at, place in enumerate(bare):
            if at == 0 or bare[at - 1] != place:
                rest = bare[:at] + bare[at + 1:]
                for strand, want, later in self._takes[place]:
                    peak = added(held, want)
                    if is_within(peak, sizes):
                        for one in later:
                            found.append(((place, strand, one), peak, with_place(rest, one)))
        return found

    def limits(self):
        """For each job of the program how many may be there at a time."""
        return list(self._limits)

    def owner_of(self, place):
        """The index of the job of the program that rests at a place."""
        return self._owners[place]

    def ways_in(self):
        """For each job of the program the places at which a new one may rest."""
        return [list(row) for row in self._ways_in]

    def takes_at(self, place):
        """Tuples (strand, want, later places) of the strands at a place that wait at takes."""
        return list(self._takes[place])

    def held_at(self, place):
        """What a job at a place holds."""
        return self._amounts_held[place]

    def grant_of(self, move):
        """What the moves have in common that are one grant [18]."""
        place, strand, later = move
        if place is None:
            return (None, self._owners[later])
        return (place, strand)

    def falls_at(self, place):
        """Tuples (strand, falls, strands right inside) of the strands at a place."""
        name, position = self._places[place]
        rows = self._program.code(name).falls_at(position)
        return [(strand, told, inside_of(position, strand)) for strand, told in rows]

    def jobs_of(self, bare):
        """The dict of the jobs of a bare state."""
        jobs = {}
        for place in bare:
            jobs[self._places[place]] = jobs.get(self._places[place], 0) + 1
        return jobs

    def bare_of(self, jobs):
        """The bare state with these jobs."""
        places = []
        for place, many in jobs.items():
            places.extend([self._numbers[place]] * many)
        return tuple(sorted(places))

    def move_of(self, move):
        """The move of [9] that a bare move is."""
        place, strand, later = move
        if place is None:
            name, position = self._places[later]
            return ("enter", name, position)
        name, position = self._places[place]
        if later is None:
            return ("take", name, position, strand, None)
        return ("take", name, position, strand, self._places[later][1])


def with_place(bare, place):
    """A bare state with one more job at a place, or the same if that is None."""
    if place is None:
        return bare
    return tuple(sorted([*bare, place]))
