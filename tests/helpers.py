"""What several tests use: values that are none, and a few programs."""

import unittest

from leastpools.parsing import parse


class Odd:
    """An object that cannot be compared, hashed, measured or iterated over."""

    def __eq__(self, other):
        raise AssertionError("compared")

    __hash__ = None

    def __len__(self):
        raise AssertionError("measured")

    def __iter__(self):
        raise AssertionError("iterated over")

    def __bool__(self):
        raise AssertionError("tested")


ODD = Odd()
# The last ones look like moves, rows, jobs or verdicts, but are none.
ANYTHING = (
    None, True, False, 0, 1, -1, 10 ** 30, 1.0, 1.5, "", "a", "A", "load", "take", b"a", [], ["a"], {}, {"a": 1}, (),
    ("a",), (1, 2), {1}, frozenset(), object(), ODD, [ODD], (ODD, ODD), {"a": ODD}, int, len, range(3),
    ("enter",), ("enter", "load"), ("enter", ODD, ODD), ("enter", "load", ODD), ("take", "load", 0, (), ODD),
    ("take", "load", ODD, (), None), ("take", "load", 0, ODD, 1), (ODD, "load", 0), ("good", ODD), ("stuck", ODD),
    (ODD, []), ("good", [ODD]), ("stuck", [ODD]), ("good", [(ODD, ODD)]), ["load", 0, ()], [("load", 0, ODD)],
    [("load", ODD, ())], [(ODD, 0, ())],
)


class Case(unittest.TestCase):
    """Tests with a check of an error and of what it is about."""

    def raises(self, error, about, call, *args, **more):
        """Check that a call raises just this error, and that it keeps the very value."""
        with self.assertRaises(error) as caught:
            call(*args, **more)
        self.assertIs(type(caught.exception), error)
        kept = [getattr(caught.exception, name) for name in ("value", "name", "number") if hasattr(caught.exception, name)]
        if error.__name__ == "NoMove" or error.__name__.startswith("Invalid") or error.__name__ == "NoJob":
            self.assertEqual(len(kept), 1)
        if isinstance(about, (str, int, tuple)):
            self.assertTrue(kept[0] is about or kept[0] == about)
            self.assertIs(type(kept[0]), type(about))
        else:
            self.assertIs(kept[0], about)

    def raises_when_iterated(self, error, about, call, *args):
        """The same for what yields: the call alone raises nothing."""
        told = call(*args)
        self.raises(error, about, next, told)


def jobs(*codes, pools="a b", limit=1):
    """A program with jobs one, two .. of these codes."""
    names = ("one", "two", "three", "four")
    text = [f"pools {pools};"]
    for name, code in zip(names, codes):
        text.append(f"job {name} limit {limit} {{ {code} }}")
    return parse(" ".join(text))


CROSSED = "pools a b; job load limit 1 { take a 1 { take b 1 { } } } job save limit 1 { take b 1 { take a 1 { } } }"
NESTED = "pools a b; job load limit 2 { take a 1 { both { take b 1 { } } and { take b 2 { run; give b 1; } } } }"
