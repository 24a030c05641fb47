"""The text of a program, cut into tokens [7]."""

from leastpools.errors import InvalidText
from leastpools.sizes import LONGEST

BLANKS = " \n"
SIGNS = "{};"
LETTERS = "abcdefghijklmnopqrstuvwxyz"
DIGITS = "0123456789"


def tokens_of(text):
    """Tuples (token, index) of a text, in order."""
    found = []
    at = 0
    while at < len(text):
        end = at + 1
        if text[at] not in BLANKS:
            end = end_of_token(text, at)
            found.append((text[at:end], at))
        at = end
    return found


def end_of_token(text, at):
    """The index behind the token that begins at an index."""
    if text[at] in SIGNS:
        return at + 1
    if text[at] in LETTERS:
        return end_of_signs(text, at, LETTERS, LONGEST)
    return end_of_signs(text, at, DIGITS, 1)


def end_of_signs(text, at, signs, most):
    """The index behind signs of a kind, of which there must be some, but not more than most."""
    end = at
    while end < len(text) and text[end] in signs:
        end = end + 1
    if not 1 <= end - at <= most:
        raise InvalidText(at)
    return end
