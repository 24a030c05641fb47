"""Questions about plain values."""


def is_integer(thing):
    """Whether a value is an integer; True and False are none."""
    return isinstance(thing, int) and not isinstance(thing, bool)


def is_between(thing, low, high):
    """Whether a value is an integer from low to high."""
    return is_integer(thing) and low <= thing <= high


def is_one_of(thing, words):
    """Whether a value is one of some strings."""
    return isinstance(thing, str) and thing in words


def first_word(thing):
    """The string with which a tuple begins, or None."""
    if isinstance(thing, tuple) and len(thing) > 0 and isinstance(thing[0], str):
        return thing[0]
    return None


def all_differ(words):
    """Whether a list of strings has none twice."""
    return len(set(words)) == len(words)
