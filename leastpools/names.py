"""The words that have a meaning in the text of a program, and those that may be names."""

from leastpools.sizes import is_word
from leastpools.values import is_one_of

RESERVED = (
    "pools", "job", "limit", "run", "take", "give", "either",
    "or", "repeat", "both", "and", "call", "on",
)


def is_name(thing):
    """Whether a value is a word that may be the name of a pool or a job."""
    return is_word(thing) and not is_one_of(thing, RESERVED)
