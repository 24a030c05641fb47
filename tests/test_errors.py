"""The interface's row on leastpools/errors.py."""

import inspect
import unittest

from leastpools import errors
from tests.helpers import ODD

WITH_VALUE = (
    "InvalidSizes InvalidProgram InvalidText InvalidState InvalidPosition InvalidPaper InvalidRanks InvalidLimits "
    "InvalidEdit InvalidLog InvalidFault InvalidCommand".split()
)
OTHERS = {
    "PoolError": (ValueError, None),
    "NoJob": (KeyError, "value"),
    "NoMove": (LookupError, "value"),
    "NotEnough": (ArithmeticError, "name"),
    "TooMany": (RuntimeError, "number"),
}


class TestErrors(unittest.TestCase):
    def test_bases(self):
        for name in WITH_VALUE:
            self.assertEqual(getattr(errors, name).__bases__, (errors.PoolError,))
        for name, (base, _) in OTHERS.items():
            self.assertEqual(getattr(errors, name).__bases__, (base,))

    def test_nothing_else(self):
        found = {name for name, thing in vars(errors).items() if inspect.isclass(thing)}
        self.assertEqual(found, set(WITH_VALUE) | set(OTHERS))

    def test_fields(self):
        fields = {name: "value" for name in WITH_VALUE}
        fields.update({name: field for name, (_, field) in OTHERS.items() if field})
        for name, field in fields.items():
            for thing in (None, ODD, [1], "a", 7):
                made = getattr(errors, name)(thing)
                self.assertIs(getattr(made, field), thing)
                self.assertIs(getattr(getattr(errors, name)(**{field: thing}), field), thing)
                self.assertIsInstance(str(made), str)

    def test_defined_with_its_own_init(self):
        for name in [*WITH_VALUE, "NoJob", "NoMove", "NotEnough", "TooMany"]:
            self.assertIn("__init__", vars(getattr(errors, name)))
