"""Runtimes with a fault: whether requests tell them from right ones [32]."""

from leastpools.errors import InvalidFault
from leastpools.pairs import Pairs, PairSearch
from leastpools.positions import is_shaped, is_strand
from leastpools.sizes import Sizes, are_amounts
from leastpools.states import are_resting, empty_state
from leastpools.values import first_word, is_one_of

FAULTS = ("over", "blind", "forget", "double", "careless", "hasty", "timid")


def check_question(program, sizes, word):
    """Raise unless these are a program, sizes and the word of a fault."""
    empty_state(program, sizes)
    if not is_one_of(word, FAULTS):
        raise InvalidFault(word)


def seen(program, sizes, word):
    """The fewest requests that tell a fault, or all pairs that can be reached."""
    check_question(program, sizes, word)
    search = PairSearch(program, sizes, word)
    requests = search.seen_by()
    if requests is None:
        return ("never", search.rows())
    return ("seen", requests)


def lets_seen(program, sizes, word, thing):
    """Whether a value shows that a fault is seen, or that it never is."""
    check_question(program, sizes, word)
    if not isinstance(thing, tuple) or len(thing) != 2 or not isinstance(thing[1], list):
        return False
    pairs = Pairs(program, sizes, word)
    if first_word(thing) == "seen":
        return lets_requests(pairs, thing[1])
    return first_word(thing) == "never" and lets_rows(pairs, program, sizes, thing[1])


def is_request(thing):
    """Whether a value has the form of a request."""
    word = first_word(thing)
    if word not in ("enter", "take", "fail") or len(thing) < 3:
        return False
    # The form comes first: True is equal to 1, and a list is no key.
    if not isinstance(thing[1], str) or not is_shaped(thing[2]):
        return False
    if word != "take":
        return len(thing) == 3
    return len(thing) == 5 and is_strand(thing[3]) and (thing[4] is None or is_shaped(thing[4]))


def lets_requests(pairs, requests):
    """Whether of a list of requests just the last one is answered otherwise."""
    pair = pairs.first()
    for index, request in enumerate(requests):
        if not is_request(request):
            return False
        told = {pairs.request_of(row[0]): row[1:] for row in pairs.answers(pair)}
        if request not in told:
            return False
        right, wrong, later = told[request]
        if right != wrong:
            return index == len(requests) - 1
        if right:
            pair = later
    return False


def lets_rows(pairs, program, sizes, rows):
    """Whether a list holds pairs, the first one and with each all those behind it, in which all is answered alike."""
    if not all([is_row(program, sizes, row) for row in rows]):
        return False
    known = {pairs.pair_of(jobs, Sizes(amounts)): True for jobs, amounts in rows}
    return pairs.first() in known and all([goes_on_alike(pairs, pair, known) for pair in known])


def is_row(program, sizes, thing):
    """Whether a value is a tuple of jobs that may be there and of amounts."""
    if not isinstance(thing, tuple) or len(thing) != 2:
        return False
    return are_resting(program, sizes, thing[0]) and are_amounts(thing[1])


def goes_on_alike(pairs, pair, known):
    """Whether all requests in a pair are answered alike, and lead to pairs that are known."""
    for _, right, wrong, later in pairs.answers(pair):
        if right != wrong or (right and later not in known):
            return False
    return True
