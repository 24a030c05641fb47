"""Lines of strands that are served in the order in which they asked [21].

A bare line is a tuple (places, asked): the tuple of the places (name,
position) of all jobs, and the tuple of the entries (index of a job, strand) of
all strands that wait at takes, in the order in which they asked. The jobs are
numbered in the order of the first entries of each. Amounts are vectors.
"""

from leastpools.positions import is_shaped, is_strand, takers_in
from leastpools.values import first_word, is_integer
from leastpools.vectors import added, is_within


def strands_told(program, places):
    """A dict from some places to dicts from their strands to tuples (want, held, inside) [codes.py]."""
    told = {}
    for name, position in places:
        rows = program.code(name).strands(position)
        told[(name, position)] = {strand: (want, held, inside) for strand, want, held, inside in rows}
    return told


def held_at(program, places):
    """What the jobs at some places hold together."""
    total = tuple([0 for _ in program.pools])
    for name, position in places:
        total = added(total, program.code(name).vector_held(position))
    return total


def entries_of(index, position):
    """The entries of a job at a position, in the order in which strands of one move ask."""
    return [(index, strand) for strand, _ in takers_in(position)]


def numbered(places, asked):
    """The bare line with these jobs and entries, the jobs numbered anew."""
    numbers = {}
    for index, _ in asked:
        if index not in numbers:
            numbers[index] = len(numbers)
    entries = [(numbers[index], strand) for index, strand in asked]
    return (tuple([places[index] for index in numbers]), tuple(entries))


def shares_a_pool(one, other):
    """Whether two vectors are both above 0 for some pool."""
    return any([a > 0 and b > 0 for a, b in zip(one, other)])


def ways_in(program, places):
    """The places at which one more job may enter, in order."""
    names = [name for name, _ in places]
    found = []
    for name in program.names():
        if names.count(name) < program.limit(name):
            found.extend([(name, position) for position in program.code(name).first() if position is not None])
    return found


def served(told, bare, free):
    """The entries that may take, if this is free, in the order in which they asked."""
    places, asked = bare
    found = []
    wanted = tuple([0 for _ in free])
    for index, strand in asked:
        want = told[places[index]][strand][0]
        if is_within(want, free) and not shares_a_pool(want, wanted):
            found.append((index, strand))
        wanted = added(wanted, want)
    return found


def line_moves(program, told, bare, free):
    """All moves of a bare line in which this is free: those that enter, then those that take."""
    places, _ = bare
    found = [("enter", name, position) for name, position in ways_in(program, places)]
    for index, strand in served(told, bare, free):
        name, position = places[index]
        found.extend([("take", index, strand, later) for later in program.code(name).after(position, strand)])
    return found


def is_line_move(thing):
    """Whether a value has the form of a move of a line."""
    word = first_word(thing)
    if word == "enter" and len(thing) == 3:
        return isinstance(thing[1], str) and is_shaped(thing[2])
    if word != "take" or len(thing) != 4 or not is_integer(thing[1]) or not is_strand(thing[2]):
        return False
    return thing[3] is None or is_shaped(thing[3])


def behind_move(bare, move):
    """The bare line behind a move that is possible."""
    places, asked = bare
    if move[0] == "enter":
        return (places + (move[1:],), asked + tuple(entries_of(len(places), move[2])))
    _, index, strand, later = move
    rest = tuple([entry for entry in asked if entry != (index, strand)])
    if later is None:
        return numbered(places, rest)
    # Who is still in the line waits at the same take as before.
    new = tuple([entry for entry in entries_of(index, later) if entry not in rest])
    place = (places[index][0], later)
    return numbered(places[:index] + (place,) + places[index + 1:], rest + new)


def stuck_rows(told, bare, free):
    """The rows (index, strand) of the strands that never go on, by index, outer strands ahead of those inside."""
    places, asked = bare
    rows = [(index, strand) for index, place in enumerate(places) for strand in told[place]]
    gone = {}
    many = -1
    while len(gone) > many:
        many = len(gone)
        wanted = tuple([0 for _ in free])
        for index, strand in asked:
            if (index, strand) not in gone:
                want, held, _ = told[places[index]][strand]
                if is_within(want, free) and not shares_a_pool(want, wanted):
                    gone[(index, strand)] = True
                    free = added(free, held)
                else:
                    # Who waits behind it for one of its pools waits, too.
                    wanted = added(wanted, want)
        for index, strand in rows:
            want, held, inside = told[places[index]][strand]
            if want is None and (index, strand) not in gone and all([(index, part) in gone for part in inside]):
                gone[(index, strand)] = True
                free = added(free, held)
    return [row for row in rows if row not in gone]
