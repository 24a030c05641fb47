"""Requests and the answers to them, and journals that are held against one another [31]."""

from leastpools.errors import InvalidLog, NoJob, NoMove
from leastpools.runtimes import Runtime, recovered
from leastpools.values import first_word

LENGTHS = {"enter": 3, "take": 4, "fail": 2}
NO_ANSWER = "none"


def answer_to(runtime, request):
    """The answer of a runtime to a request; a word of its own if there is none."""
    word = first_word(request)
    if word not in LENGTHS or len(request) != LENGTHS[word]:
        return NO_ANSWER
    try:
        return answer_of(runtime, word, request)
    except NoJob:
        return NO_ANSWER
    except NoMove:
        return NO_ANSWER


def answer_of(runtime, word, request):
    """What a runtime answers to a request of a right form."""
    if word == "enter":
        return runtime.enter(request[1], request[2])
    if word == "take":
        return runtime.take(request[1], request[2], request[3])
    runtime.fail(request[1])
    return None


def due_answers(program, sizes, requests, *, careful=False):
    """The answers of a runtime to a list of requests."""
    runtime = Runtime(program, sizes, careful=careful)
    if not isinstance(requests, list):
        raise InvalidLog(requests)
    return [answer_to(runtime, request) for request in requests]


def is_same_answer(due, answer):
    """Whether two answers are the same; True and False are no numbers."""
    if isinstance(due, bool) != isinstance(answer, bool):
        return False
    return due == answer


def is_transcript(thing):
    """Whether a value is a list of tuples of two values."""
    return isinstance(thing, list) and all([isinstance(row, tuple) and len(row) == 2 for row in thing])


def first_wrong(program, sizes, transcript, *, careful=False):
    """The index of the first answer that a runtime does not give, or None."""
    runtime = Runtime(program, sizes, careful=careful)
    if not is_transcript(transcript):
        raise InvalidLog(transcript)
    for index, (request, answer) in enumerate(transcript):
        if not is_same_answer(answer_to(runtime, request), answer):
            return index
    return None


def ended_lines(text):
    """The lines of a text that are ended by a line feed."""
    return text.split("\n")[:-1]


def how_many_alike(one, other):
    """How many of the first lines are the same."""
    many = 0
    while many < min(len(one), len(other)) and one[many] == other[many]:
        many = many + 1
    return many


def lost_lines(program, sizes, texts, *, careful=False):
    """The first line of journals that is not right; or for each journal how many lines the next one does not have."""
    Runtime(program, sizes, careful=careful)
    if not isinstance(texts, list) or not all([isinstance(text, str) for text in texts]):
        raise InvalidLog(texts)
    rows = [ended_lines(text) for text in texts]
    for index, text in enumerate(texts):
        _, many = recovered(program, sizes, text, careful=careful)
        if many < len(rows[index]):
            return ("wrong", index, many)
    return ("right", [len(one) - how_many_alike(one, other) for one, other in zip(rows, rows[1:])])


def strays(program, sizes, one, other, *, careful=False):
    """Tuples (number, here, there) of the jobs that stand otherwise behind two journals."""
    Runtime(program, sizes, careful=careful)
    for text in (one, other):
        if not isinstance(text, str):
            raise InvalidLog([text])
    here = recovered(program, sizes, one, careful=careful)[0].numbers()
    there = recovered(program, sizes, other, careful=careful)[0].numbers()
    numbers = sorted(list({number: True for number in [*list(here), *list(there)]}))
    rows = [(number, here.get(number, None), there.get(number, None)) for number in numbers]
    return [row for row in rows if row[1] != row[2]]
