"""The forms of the lines that a console carries out [27]."""

from leastpools.sizes import is_word
from leastpools.tokens import DIGITS
from leastpools.values import all_differ

LONGEST_NUMBER = 3
# The kinds of the words behind the first one; `program` and `sizes` have forms of their own.
FORMS = {
    "careful": (), "plain": (),
    "enter": ("name", "number"), "take": ("number", "strand", "number"), "fail": ("number",),
    "good": (), "run": (), "caps": (), "least": (), "ranks": (), "free": (), "word": (), "lines": (), "jobs": (),
    "stops": (),
}


def has_signs(word, signs):
    """Whether a word has just some signs."""
    return all([sign in signs for sign in word])


def is_number(word):
    """Whether a word is an integer from 0 to 999 without leading zeros."""
    if not 1 <= len(word) <= LONGEST_NUMBER or not has_signs(word, DIGITS):
        return False
    return word == "0" or word[0] != "0"


def value_of(word, kind):
    """What a word of a kind tells, or None if it is no such word."""
    if kind == "name" and is_word(word):
        return word
    if kind == "number" and is_number(word):
        return int(word)
    if kind == "strand" and word.startswith(".") and has_signs(word[1:], "01"):
        return tuple([int(sign) for sign in word[1:]])
    return None


def amounts_of(words):
    """The dict that names and numbers in turn tell, or None if they are no such words."""
    names = words[::2]
    numbers = words[1::2]
    if len(names) != len(numbers) or not all_differ(names):
        return None
    if not all([is_word(name) for name in names]) or not all([is_number(number) for number in numbers]):
        return None
    return {name: int(number) for name, number in zip(names, numbers)}


def parts_of(line):
    """The first word of a line and a list of what the others tell; None if it has none of the forms."""
    if not isinstance(line, str) or "\n" in line:
        return None
    first, space, text = line.partition(" ")
    if first == "program" and space == " ":
        return (first, [text])
    words = line.split(" ")[1:]
    if first == "sizes":
        told = [amounts_of(words)]
    elif first in FORMS and len(words) == len(FORMS[first]):
        told = [value_of(word, kind) for word, kind in zip(words, FORMS[first])]
    else:
        return None
    if any([part is None for part in told]):
        return None
    return (first, told)
