"""Sizes of pools, and amounts, which are told in the same way."""

from leastpools.errors import InvalidSizes, NotEnough
from leastpools.values import is_integer

LONGEST = 8


def is_word(thing):
    """Whether a value is a text of one to eight small letters."""
    if not isinstance(thing, str) or not 1 <= len(thing) <= LONGEST:
        return False
    return thing.isascii() and thing.isalpha() and thing.islower()


def is_amount(thing):
    """Whether a value is an integer of at least 0."""
    return is_integer(thing) and thing >= 0


def are_amounts(thing):
    """Whether a value is a dict from words to integers of at least 0."""
    if not isinstance(thing, dict):
        return False
    return all([is_word(name) and is_amount(amount) for name, amount in thing.items()])


class Sizes:
    """An amount of each pool; of all but a few pools it is 0."""

    def __init__(self, amounts):
        if not are_amounts(amounts):
            raise InvalidSizes(amounts)
        self._names = sorted([name for name in amounts if amounts[name] > 0])
        self._amounts = {name: amounts[name] for name in self._names}

    def __getitem__(self, at):
        # A value that is no string may not be a key at all.
        if not isinstance(at, str):
            return 0
        return self._amounts.get(at, 0)

    def __contains__(self, x):
        return self[x] > 0

    def __iter__(self):
        return iter(self._names)

    def __len__(self):
        return len(self._names)

    def __eq__(self, other):
        return isinstance(other, Sizes) and self._amounts == other._amounts

    def __str__(self):
        if len(self._names) == 0:
            return "-"
        return " ".join([f"{name} {self._amounts[name]}" for name in self._names])

    @property
    def total(self):
        """The sum of all amounts."""
        return sum(list(self._amounts.values()))

    def names(self):
        """The names with amounts above 0, in ascending order."""
        return list(self._names)

    def by_name(self):
        """The amounts above 0, by name."""
        return {name: self._amounts[name] for name in self._names}

    def fits(self, other):
        """Whether each amount is at most that of other."""
        if not isinstance(other, Sizes):
            raise InvalidSizes(other)
        return all([self._amounts[name] <= other[name] for name in self._names])

    def __add__(self, other):
        if not isinstance(other, Sizes):
            raise InvalidSizes(other)
        names = self.names() + other.names()
        return Sizes({name: self[name] + other[name] for name in names})

    def __sub__(self, other):
        if not isinstance(other, Sizes):
            raise InvalidSizes(other)
        for name in other.names():
            if self[name] < other[name]:
                raise NotEnough(name)
        return Sizes({name: self[name] - other[name] for name in self._names})

    def __and__(self, other):
        if not isinstance(other, Sizes):
            raise InvalidSizes(other)
        return Sizes({name: min(self[name], other[name]) for name in self._names})

    def __or__(self, other):
        if not isinstance(other, Sizes):
            raise InvalidSizes(other)
        names = self.names() + other.names()
        return Sizes({name: max(self[name], other[name]) for name in names})

    def __mul__(self, other):
        if not is_amount(other):
            raise InvalidSizes(other)
        return Sizes({name: self[name] * other for name in self._names})

    def __call__(self, name, by=1):
        """Sizes with so much more of a pool."""
        if not is_word(name):
            raise InvalidSizes(name)
        if not is_amount(by):
            raise InvalidSizes(by)
        return self + Sizes({name: by})
