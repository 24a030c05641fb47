"""[5] Sizes, and [2] words and integers."""

from leastpools.errors import InvalidSizes, NotEnough
from leastpools.sizes import Sizes, is_word
from tests.helpers import ANYTHING, ODD, Case

HUGE = 10 ** 40


class TestWords(Case):
    def test_words(self):
        for word in ("a", "z", "abcdefgh", "pools", "take", "on"):
            self.assertIs(is_word(word), True)

    def test_no_words(self):
        for thing in ("", "abcdefghi", "A", "aB", "a b", "a1", "1", "a\n", "\u00e9", "\u0430", "\u00df", "\u01c5", "a_", " a"):
            self.assertIs(is_word(thing), False, thing)
        for thing in ANYTHING:
            if thing not in ("a", "load", "take") if isinstance(thing, str) else True:
                self.assertIs(is_word(thing), False)


class TestSizes(Case):
    def test_document(self):
        one = Sizes({"conn": 2, "disk": 1})
        told = [str(one + Sizes({"conn": 1})), str(one - Sizes({"disk": 1})), one("log").total, one.fits(one * 2)]
        self.assertEqual(told, ["conn 3 disk 1", "conn 2", 4, True])

    def test_amounts(self):
        one = Sizes({"b": 2, "a": HUGE, "c": 0})
        self.assertEqual((one["a"], one["b"], one["c"], one["d"]), (HUGE, 2, 0, 0))
        self.assertEqual((one.total, len(one)), (HUGE + 2, 2))
        self.assertEqual((one.names(), list(one), one.by_name()), (["a", "b"], ["a", "b"], {"a": HUGE, "b": 2}))
        self.assertEqual(str(one), f"a {HUGE} b 2")
        self.assertEqual(["a" in one, "c" in one, "d" in one], [True, False, False])
        self.assertIs("a" in Sizes({"a": 1}), True)

    def test_any_value_as_a_name(self):
        one = Sizes({"a": 1, "load": 2})
        for thing in ANYTHING:
            if not isinstance(thing, str) or thing not in ("a", "load"):
                self.assertEqual(one[thing], 0)
                self.assertIs(thing in one, False)

    def test_none(self):
        none = Sizes({})
        self.assertEqual((str(none), len(none), none.total, none.names(), none.by_name()), ("-", 0, 0, [], {}))
        self.assertEqual(str(Sizes({"a": 0})), "-")

    def test_reserved_words_are_words(self):
        self.assertEqual(str(Sizes({"take": 1, "pools": 2})), "pools 2 take 1")

    def test_equality(self):
        self.assertEqual(Sizes({"a": 1, "b": 2, "c": 0}), Sizes({"b": 2, "a": 1}))
        self.assertNotEqual(Sizes({"a": 1}), Sizes({"a": 2}))
        self.assertNotEqual(Sizes({"a": 1}), Sizes({"b": 1}))
        for thing in ANYTHING:
            if thing is not ODD:
                self.assertFalse(Sizes({}) == thing)
                self.assertTrue(Sizes({"a": 1}) != thing)

    def test_wrong_amounts(self):
        for thing in ANYTHING:
            if not isinstance(thing, dict) or "a" in thing and thing["a"] is ODD:
                self.raises(InvalidSizes, thing, Sizes, thing)
        for thing in ({"a": -1}, {"a": True}, {"a": False}, {"a": 1.0}, {"a": "1"}, {"a": None}, {"A": 1}, {"": 1},
                      {"abcdefghi": 1}, {1: 1}, {None: 0}, {("a",): 1}, {"a": 1, "b": -1}, {"a": 1, 2: 3}):
            self.raises(InvalidSizes, thing, Sizes, thing)

    def test_copies(self):
        amounts = {"a": 1, "b": 2}
        one = Sizes(amounts)
        amounts["a"] = 7
        one.by_name()["a"] = 8
        one.names().append("c")
        self.assertEqual(one, Sizes({"a": 1, "b": 2}))
        self.assertEqual(one.names(), ["a", "b"])


class TestOperators(Case):
    one = Sizes({"a": 3, "b": 1})
    other = Sizes({"b": 2, "c": 5})

    def test_two_sizes(self):
        self.assertEqual(str(self.one + self.other), "a 3 b 3 c 5")
        self.assertEqual(str(self.one & self.other), "b 1")
        self.assertEqual(str(self.one | self.other), "a 3 b 2 c 5")
        self.assertEqual(str(self.one - Sizes({"a": 3})), "b 1")
        self.assertEqual(str(self.one - self.one), "-")
        self.assertEqual(self.one - Sizes({}), self.one)

    def test_fits(self):
        self.assertIs(self.one.fits(self.one | self.other), True)
        self.assertIs(self.one.fits(self.one), True)
        self.assertIs(self.one.fits(self.other), False)
        self.assertIs(Sizes({}).fits(Sizes({})), True)
        self.assertIs(Sizes({"a": 1}).fits(Sizes({})), False)
        self.assertIs(Sizes({"a": HUGE}).fits(Sizes({"a": HUGE - 1})), False)

    def test_not_enough(self):
        self.raises(NotEnough, "b", lambda: self.one - self.other)
        self.raises(NotEnough, "a", lambda: self.one - Sizes({"z": 1, "b": 2, "a": 4}))
        self.raises(NotEnough, "c", lambda: Sizes({"c": 1}) - Sizes({"d": 1, "c": 2}))
        self.raises(NotEnough, "z", lambda: self.one - Sizes({"z": 1}))

    def test_other_operands(self):
        for thing in ANYTHING:
            self.raises(InvalidSizes, thing, lambda: self.one + thing)
            self.raises(InvalidSizes, thing, lambda: self.one - thing)
            self.raises(InvalidSizes, thing, lambda: self.one & thing)
            self.raises(InvalidSizes, thing, lambda: self.one | thing)
            self.raises(InvalidSizes, thing, self.one.fits, thing)

    def test_times(self):
        self.assertEqual(str(self.one * 2), "a 6 b 2")
        self.assertEqual(str(self.one * 0), "-")
        self.assertEqual((self.one * HUGE)["a"], 3 * HUGE)
        for thing in ANYTHING:
            if type(thing) is not int or thing < 0:
                self.raises(InvalidSizes, thing, lambda: self.one * thing)

    def test_one_more(self):
        self.assertEqual(str(self.one("a")), "a 4 b 1")
        self.assertEqual(str(self.one("z", 3)), "a 3 b 1 z 3")
        self.assertEqual(str(self.one("z", by=0)), "a 3 b 1")
        self.assertEqual(str(self.one(name="take", by=2)), "a 3 b 1 take 2")
        self.assertEqual(str(self.one), "a 3 b 1")

    def test_one_more_of_nothing(self):
        for thing in ANYTHING:
            if not is_word(thing):
                self.raises(InvalidSizes, thing, self.one, thing)
                self.raises(InvalidSizes, thing, self.one, thing, -1)
            if type(thing) is not int or thing < 0:
                self.raises(InvalidSizes, thing, self.one, "a", thing)

    def test_nothing_changes(self):
        self.assertEqual((str(self.one), str(self.other)), ("a 3 b 1", "b 2 c 5"))
        one = Sizes({"a": 1})
        one + one, one * 3, one | Sizes({"b": 1}), one & Sizes({}), one("b", 7)
        self.assertEqual(str(one), "a 1")

    def test_methods_are_its_own(self):
        for name in ("names", "total", "by_name", "fits", "__add__", "__sub__", "__and__", "__or__", "__mul__", "__call__",
                     "__getitem__", "__contains__", "__iter__", "__len__", "__eq__", "__str__"):
            self.assertIn(name, vars(Sizes))
