"""Vectors as single numbers, with a field for each amount.

The top bit of a field is its guard. It is set ahead of a subtraction, and is
still set behind it if the field had at least as much as was taken off.
"""

# The greatest amount of a pool that a take can want [6].
MOST_WANTED = 9


class Packing:
    """Fields for the amounts of vectors, the first amount in the lowest field."""

    def __init__(self, start):
        """Start is a vector; amounts are at most its greatest one, or what a take can want."""
        self._width = max([MOST_WANTED, *start]).bit_length() + 1
        self.start = self.packed(start)
        self.guards = self.packed([1 << (self._width - 1) for _ in start])

    def packed(self, vector):
        """The number of a vector, which may have fewer amounts, and amounts below 0."""
        number = 0
        for amount in reversed(list(vector)):
            number = (number << self._width) + amount
        return number

    def one_in(self, at):
        """The number with 1 in a field and nothing in the others."""
        return 1 << (at * self._width)

    def unpacked(self, number, many):
        """The vector of the amounts in the first so many fields."""
        field = self.one_in(1) - 1
        return tuple([(number >> (at * self._width)) & field for at in range(many)])
