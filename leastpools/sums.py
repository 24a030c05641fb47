"""How much jobs can hold together of one pool, while each wants more than the rest [16].

Waits are the points of a pool: a dict from the names of the jobs, in order,
to lists of tuples (held, want). A table, for one rest, is a list with a tuple
(fewest, sums) for each job.
"""

from leastpools.sizes import is_amount


def rests_of(waits, size):
    """The rests that are at most the size, and that some job wants more than."""
    wants = [want for name in waits for _, want in waits[name]]
    return list(range(min(size + 1, max(wants, default=0))))


def held_beyond(rows, rest):
    """What is held at the points at which more than the rest is wanted."""
    return [held for held, want in rows if want > rest]


def is_one_more_allowed(limit, many):
    """Whether there may be one more job beside so many; None is no limit."""
    return limit is None or many < limit


def fewest_by_sum(held, limit, size):
    """A dict from the sums, up to the size, that some jobs can hold together to how few do it."""
    fewest = {0: 0}
    latest = [0]
    many = 0
    while len(latest) > 0 and is_one_more_allowed(limit, many):
        many = many + 1
        found = {total + one: True for total in latest for one in held if total + one <= size}
        latest = [total for total in found if total not in fewest]
        for total in latest:
            fewest[total] = many
    return fewest


def sums_of(before, fewest, size):
    """The ascending list of the sums, up to the size, of a sum ahead and one of this job."""
    return sorted(list({one + other: True for one in before for other in fewest if one + other <= size}))


def table_of(waits, limits, rest, size):
    """The table for a rest."""
    table = []
    sums = [0]
    for name in waits:
        fewest = fewest_by_sum(held_beyond(waits[name], rest), limits[name], size)
        sums = sums_of(sums, fewest, size)
        table.append((fewest, sums))
    return table


def first_holding_nothing(waits, limits, rest):
    """Rows of one job that holds nothing and wants more than the rest; no rows if there is none."""
    for name in waits:
        for held, want in waits[name]:
            if held == 0 and want > rest and is_one_more_allowed(limits[name], 0):
                return [(name, held, want, 1)]
    return []


def stuck_rows(waits, limits, rest, size, table):
    """Rows of jobs that hold all but the rest and each want more than it; no rows if there are none."""
    total = size - rest
    if total == 0:
        return first_holding_nothing(waits, limits, rest)
    if total not in table[-1][1]:
        return []
    rows = []
    names = list(waits)
    for at in reversed(range(len(names))):
        fewest = table[at][0]
        before = [0]
        if at > 0:
            before = table[at - 1][1]
        part = [one for one in fewest if total - one in before][0]
        rows.extend(rows_of_sum(names[at], waits[names[at]], rest, fewest, part))
        total = total - part
    return rows


def rows_of_sum(name, points, rest, fewest, total):
    """Rows of the fewest jobs of a name that hold so much together."""
    counts = {}
    for _ in range(fewest[total]):
        held, want = [row for row in points if row[1] > rest and is_last_of(fewest, total, row[0])][0]
        counts[(held, want)] = counts.get((held, want), 0) + 1
        total = total - held
    return [(name, held, want, many) for (held, want), many in counts.items()]


def is_last_of(fewest, total, held):
    """Whether one of the fewest jobs that hold so much together may hold this."""
    return total - held in fewest and fewest[total - held] == fewest[total] - 1


def is_row(waits, thing):
    """Whether a value is a tuple (name, held, want, many) of one of the points."""
    if not isinstance(thing, tuple) or len(thing) != 4 or not isinstance(thing[0], str):
        return False
    if not all([is_amount(part) for part in thing[1:]]) or thing[0] not in waits:
        return False
    return thing[1:3] in waits[thing[0]] and thing[3] > 0


def lets_rows(waits, limits, size, rows):
    """Whether a list holds rows of jobs within the limits that are stuck together."""
    if len(rows) == 0 or not all([is_row(waits, row) for row in rows]):
        return False
    for name in waits:
        many = sum([row[3] for row in rows if row[0] == name])
        if not is_one_more_allowed(limits[name], many - 1):
            return False
    rest = size - sum([row[1] * row[3] for row in rows])
    return rest >= 0 and all([row[2] > rest for row in rows])


def lets_tables(waits, limits, size, tables):
    """Whether a list holds a table for each rest, which shows that nothing gets stuck."""
    rests = rests_of(waits, size)
    if len(tables) != len(rests):
        return False
    return all([lets_table(waits, limits, rest, size, table) for rest, table in zip(rests, tables)])


def lets_table(waits, limits, rest, size, table):
    """Whether a value is a table, perhaps with more than is needed, that shows that nothing gets stuck."""
    if not isinstance(table, list) or len(table) != len(waits) or not all([is_entry(row) for row in table]):
        return False
    before = {0: True}
    for name, (fewest, sums) in zip(list(waits), table):
        known = {total: True for total in sums}
        if not lets_fewest(held_beyond(waits[name], rest), limits[name], size, fewest):
            return False
        if not all([one + other in known for one in before for other in fewest if one + other <= size]):
            return False
        before = known
    if size == rest:
        return len(first_holding_nothing(waits, limits, rest)) == 0
    return size - rest not in before


def is_entry(thing):
    """Whether a value has the form of a tuple (fewest, sums)."""
    if not isinstance(thing, tuple) or len(thing) != 2:
        return False
    fewest, sums = thing
    if not isinstance(fewest, dict) or not isinstance(sums, list):
        return False
    return all([is_amount(part) for part in [*list(fewest), *list(fewest.values()), *sums]])


def lets_fewest(held, limit, size, fewest):
    """Whether a dict has 0 for 0, and with each sum those of one job more, if it is allowed, for at most one more."""
    if fewest.get(0, 1) != 0:
        return False
    for total, many in fewest.items():
        if is_one_more_allowed(limit, many):
            later = [total + one for one in held if total + one <= size]
            if not all([one in fewest and fewest[one] <= many + 1 for one in later]):
                return False
    return True
