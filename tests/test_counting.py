"""[16] plain programs by counting, and guarantee (d) of [4] for them."""

import random
from itertools import product

from leastpools.counting import own_limits, points
from leastpools.countings import count, is_counted_good, lets_count, sure
from leastpools.errors import InvalidLimits, InvalidProgram, InvalidSizes, TooMany
from leastpools.grids import Goods
from leastpools.parsing import parse
from leastpools.sizes import Sizes
from tests.helpers import ANYTHING, CROSSED, ODD, Case, jobs
from tests.model import Model, plain_program, random_program

NESTED_ONCE = jobs("take a 1 { take a 1 { } }", limit=3)
# Two jobs: the one holds 1 and wants 2, the other one holds 2 and wants 1, or holds nothing and wants 3.
TWO = jobs("take a 1 { take a 2 { } } take b 2 { }", "take a 2 { take a 1 { } } take a 3 { }", limit=2)


def is_plain(program):
    return points(program) is not None


def slow_sets(program, limits, pool):
    """All multisets of jobs at points of a pool, as lists of (name, held, want), for small limits."""
    rows = []
    for name, some in points(program).items():
        some = [(held, want) for one, held, want in some if one == pool]
        counts = [row for row in product(range(limits[name] + 1), repeat=len(some)) if sum(row) <= limits[name]]
        rows.append([[(name, *point) for point, many in zip(some, row) for _ in range(many)] for row in counts])
    return [sum(some, []) for some in product(*rows)]


def slow_stuck(program, limits, pool, size):
    """Whether a size gets stuck, by the words of [16]."""
    for some in slow_sets(program, limits, pool):
        rest = size - sum(held for _, held, _ in some)
        if some and rest >= 0 and all(want > rest for _, _, want in some):
            return True
    return False


class TestPlain(Case):
    def test_points(self):
        self.assertEqual(points(NESTED_ONCE), {"one": [("a", 0, 1), ("a", 1, 1)]})
        self.assertEqual(points(TWO), {
            "one": [("a", 0, 1), ("a", 1, 2), ("b", 0, 2)], "two": [("a", 0, 2), ("a", 0, 3), ("a", 2, 1)],
        })
        self.assertEqual(points(jobs("run;", "")), {"one": [], "two": []})
        self.assertEqual(points(jobs("take b 1 { } take a 1 { }", pools="b a")), {"one": [("a", 0, 1), ("b", 0, 1)]})
        self.assertEqual(points(jobs("take a 1 { } take a 1 { } repeat 3 { take a 1 { } }")), {"one": [("a", 0, 1)]})

    def test_plain(self):
        for text in (
            "take a 1 { run; take a 2 { run; run; } run; } take b 1 { } run;",
            "take a 1 { either { take a 1 { } } or { run; repeat 2 { take a 1 { } } run; } }",
            "either { take a 1 { } take b 1 { } } or { repeat 2 { take a 1 { } take b 1 { } } } take a 1 { }",
            "take a 1 { either { } or { run; run; } run; }",
        ):
            self.assertTrue(is_plain(jobs(text)), text)

    def test_not_plain(self):
        for text in (
            "take a 1 { give a 1; }", "both { } and { }", "take a 1 { both { } and { } }", "either { both { } and { } } or { }",
            "take a 1 b 1 { }", "take a 1 { take b 1 { } }", "take a 1 { take a 1 b 1 { } }", "take a 1 { take a 1 { } take a 1 { } }",
            "take a 1 { either { } or { } either { } or { } }", "take a 1 { repeat 1 { } repeat 1 { } }",
            "take a 1 { either { take a 1 { } take a 1 { } } or { } }", "take a 1 { either { } or { take b 1 { } } }",
            "take a 1 { take a 1 { take a 1 { } run; take a 1 { } } }", "repeat 2 { take a 1 { repeat 2 { take b 1 { } } } }",
            "take a 1 { take a 1 { give a 1; } }", "take a 1 { repeat 1 { both { } and { } } }",
        ):
            self.assertFalse(is_plain(jobs(text)), text)
            self.assertFalse(is_plain(jobs("", text).with_limit("two", 0)), text)

    def test_calls(self):
        self.assertEqual(points(jobs("take a 1 { }", "call one on a;"))["two"], [("a", 0, 1), ("a", 1, 1)])
        self.assertEqual(points(jobs("take a 2 { }", "take a 3 { call one on a; }"))["two"], [("a", 0, 3), ("a", 3, 1), ("a", 4, 2)])
        self.assertEqual(points(jobs("run;", "call one on b;"))["two"], [("b", 0, 1)])
        # The call takes one pool and the code inside it another one.
        self.assertIsNone(points(jobs("take a 1 { }", "call one on b;")))
        self.assertIsNone(points(jobs("take a 1 { }", "take b 1 { call one on a; }")))
        self.assertIsNone(points(jobs("run;", "take b 1 { call one on a; }")))
        # Two statements in the code of the called job are too many within a call, but not outside.
        self.assertIsNotNone(points(jobs("take a 1 { } take a 1 { }", "take a 1 { }")))
        self.assertIsNone(points(jobs("take a 1 { } take a 1 { }", "call one on a;")))
        self.assertIsNone(points(jobs("run;", "take a 1 { call one on a; run; call one on a; }")))
        self.assertIsNotNone(points(jobs("run;", "take a 1 { call one on a; run; }")))
        # A call of a job that calls.
        program = jobs("take a 1 { }", "call one on a;", "take a 1 { call two on a; }")
        self.assertEqual(points(program)["three"], [("a", 0, 1), ("a", 1, 1), ("a", 2, 1), ("a", 3, 1)])

    def test_by_chance(self):
        for seed in range(150):
            program = plain_program(seed, is_plain)
            for name, told in points(program).items():
                model = Model(program, name)
                rows = [row for way in model.ways().values() for row in model.strands(way)]
                self.assertEqual(told, sorted({(pool, held[pool], want[pool]) for _, want, held in rows for pool in want}))
        self.assertGreater(sum(is_plain(random_program(seed)) for seed in range(200)), 5)

    def test_own_limits(self):
        self.assertEqual(own_limits(parse(CROSSED).with_limit("save", 0)), {"load": 1, "save": 0})

    def test_no_program(self):
        for thing in ANYTHING:
            self.raises(InvalidProgram, thing, points, thing)
            self.raises(InvalidProgram, thing, own_limits, thing)
        self.assertIsNone(points(program=parse(CROSSED)))
        self.assertEqual(own_limits(program=parse(CROSSED)), {"load": 1, "save": 1})


class TestCount(Case):
    def test_stuck(self):
        word, rows = count(NESTED_ONCE, {"one": 3}, "a", 3)
        self.assertEqual((word, rows), ("stuck", [("one", 1, 1, 3)]))
        self.assertEqual(count(NESTED_ONCE, {"one": 3}, "a", 0), ("stuck", [("one", 0, 1, 1)]))
        self.assertEqual(count(NESTED_ONCE, {"one": 2}, "a", 3)[0], "good")

    def test_good(self):
        self.assertEqual(count(NESTED_ONCE, {"one": 3}, "a", 4), ("good", [[({0: 0, 1: 1, 2: 2, 3: 3}, [0, 1, 2, 3])]]))
        self.assertEqual(count(NESTED_ONCE, {"one": 0}, "a", 4), ("good", [[({0: 0}, [0])]]))
        self.assertEqual(count(NESTED_ONCE, {"one": 0}, "b", 4), ("good", []))
        self.assertEqual(count(NESTED_ONCE, {"one": None}, "b", 0), ("good", []))
        # Rests 0, 1 and 2; at a rest of 1 only points that want 2 or more are left.
        told = count(TWO, {"one": 1, "two": 1}, "a", 6)
        self.assertEqual(told, ("good", [
            [({0: 0, 1: 1}, [0, 1]), ({0: 0, 2: 1}, [0, 1, 2, 3])], [({0: 0, 1: 1}, [0, 1]), ({0: 0}, [0, 1])], [({0: 0}, [0]), ({0: 0}, [0])],
        ]))
        # The greatest want is that of all jobs, whatever their limits, but no rest is more than the size.
        self.assertEqual(len(count(TWO, {"one": 0, "two": 0}, "a", 200)[1]), 3)
        self.assertEqual(len(count(TWO, {"one": 0, "two": 0}, "a", 1)[1]), 2)

    def test_no_sums_above_the_size(self):
        told = count(jobs("take a 3 { take a 1 { } }"), {"one": 2}, "a", 5)
        self.assertEqual(told, ("good", [[({0: 0, 3: 1}, [0, 3])], [({0: 0}, [0])], [({0: 0}, [0])]]))
        told = count(jobs("take a 3 { take a 1 { } }", "take a 4 { take a 1 { } }"), {"one": 1, "two": 1}, "a", 6)
        self.assertEqual(told[1][0], [({0: 0, 3: 1}, [0, 3]), ({0: 0, 4: 1}, [0, 3, 4])])

    def test_limits(self):
        for many in (200, 10 ** 18, None):
            self.assertEqual(count(NESTED_ONCE, {"one": many}, "a", 200), ("stuck", [("one", 1, 1, 200)]))
        self.assertEqual(count(NESTED_ONCE, {"one": 199}, "a", 200)[0], "good")
        for size in range(12):
            self.assertIs(count(TWO, {"one": 1, "two": None}, "a", size)[0] == "stuck", True)
        self.assertEqual(count(TWO, {"two": 0, "one": None}, "a", 200)[0], "stuck")

    def test_by_chance(self):
        words = []
        for seed in range(150):
            program = plain_program(seed, is_plain)
            rng = random.Random(seed)
            limits = {name: rng.randint(0, 2) for name in program.names()}
            if any(len(some) > 6 for some in points(program).values()):
                continue
            for pool in program.pools:
                for size in range(8):
                    told = count(program, limits, pool, size)
                    words.append(told[0])
                    self.assertEqual(told[0], "stuck" if slow_stuck(program, limits, pool, size) else "good")
                    self.assertTrue(lets_count(program, limits, pool, size, told))
                    if told[0] == "stuck":
                        self.check_rows(program, limits, pool, size, told[1])
                    self.assertFalse(lets_count(program, limits, pool, size, ("good" if told[0] == "stuck" else "stuck", told[1])))
        self.assertGreater(min(words.count("stuck"), words.count("good")), 200)

    def check_rows(self, program, limits, pool, size, rows):
        self.assertGreater(len(rows), 0)
        rest = size - sum(held * many for _, held, _, many in rows)
        self.assertGreaterEqual(rest, 0)
        for name, held, want, many in rows:
            self.assertIn((pool, held, want), points(program)[name])
            self.assertGreater(want, rest)
            self.assertGreater(many, 0)
            self.assertLessEqual(sum(row[3] for row in rows if row[0] == name), limits[name])


class TestGood(Case):
    def test_counting_tells_the_good_sizes(self):
        told = []
        for seed in range(250):
            program = plain_program(seed, is_plain)
            try:
                goods = Goods(program)
            except TooMany:
                continue
            for sizes, good in goods.grid():
                told.append(good)
                self.assertIs(is_counted_good(program, own_limits(program), sizes), good)
        self.assertGreater(min(told.count(True), told.count(False)), 500)

    def test_more_than_a_search_could(self):
        limits = {"one": 10 ** 18, "two": None}
        self.assertIs(is_counted_good(TWO, limits, Sizes({"a": 200, "b": 200})), False)
        program = jobs("take a 2 { } take b 3 { }", "take a 3 { }")
        self.assertIs(is_counted_good(program, limits, Sizes({"a": 3, "b": 3})), True)
        self.assertIs(is_counted_good(program, limits, Sizes({"a": 2, "b": 3})), False)
        self.assertIs(is_counted_good(program, {"one": None, "two": 0}, Sizes({"a": 2, "b": 3})), True)
        self.assertIs(is_counted_good(program, {"two": 0, "one": 0}, Sizes({})), True)
        self.assertIs(is_counted_good(program, limits, Sizes({"a": 3, "b": 2})), False)


class TestSure(Case):
    def test_examples(self):
        for many in (1, 2, 3, 10 ** 18):
            self.assertEqual(sure(NESTED_ONCE, {"one": many}, "a"), many + 1)
        self.assertEqual(sure(NESTED_ONCE, {"one": 0}, "a"), 0)
        self.assertEqual(sure(NESTED_ONCE, {"one": None}, "b"), 0)
        self.assertIsNone(sure(NESTED_ONCE, {"one": None}, "a"))
        self.assertEqual(sure(jobs("take a 9 { }"), {"one": None}, "a"), 9)
        self.assertIsNone(sure(TWO, {"one": None, "two": 0}, "a"))
        self.assertEqual(sure(TWO, {"one": 0, "two": 0}, "a"), 0)
        # At a rest of 1 only those of the first job still wait.
        self.assertEqual(sure(TWO, {"one": 10 ** 18, "two": 0}, "a"), 10 ** 18 + 2)
        self.assertEqual(sure(TWO, {"one": 5, "two": 10 ** 18}, "a"), 2 * 10 ** 18 + 5 + 1)
        self.assertEqual(sure(TWO, {"one": None, "two": None}, "b"), 2)

    def test_not_the_first_size_that_is_good(self):
        # Jobs that hold 3 and want 3: sizes 3 to 5, and 6 to 8, get stuck at rests 0 to 2.
        program = jobs("take a 3 { take a 3 { } }")
        told = [count(program, {"one": 2}, "a", size)[0] for size in range(12)]
        self.assertEqual(told, ["stuck"] * 9 + ["good"] * 3)
        self.assertEqual(sure(program, {"one": 2}, "a"), 9)
        program = jobs("take a 3 { take a 1 { } }")
        told = [count(program, {"one": 2}, "a", size)[0] for size in range(9)]
        self.assertEqual(told, ["stuck"] * 4 + ["good"] * 2 + ["stuck"] + ["good"] * 2)
        self.assertEqual(sure(program, {"one": 2}, "a"), 7)

    def test_by_chance(self):
        for seed in range(200):
            program = plain_program(seed, is_plain)
            rng = random.Random(seed)
            limits = {name: rng.choice((0, 1, 2, 3, None)) for name in program.names()}
            for pool in program.pools:
                stuck = [size for size in range(201) if count(program, limits, pool, size)[0] == "stuck"]
                told = sure(program, limits, pool)
                if told is None:
                    self.assertGreater(max(stuck), 180)
                else:
                    self.assertEqual(told, max(stuck, default=-1) + 1)


class TestWrongInputs(Case):
    limits = {"one": 1, "two": 1}
    not_plain = parse(CROSSED)

    def test_program_first(self):
        for thing in [*ANYTHING, self.not_plain]:
            self.raises(InvalidProgram, thing, count, thing, None, None, None)
            self.raises(InvalidProgram, thing, lets_count, thing, None, None, None, None)
            self.raises(InvalidProgram, thing, sure, thing, None, None)
            self.raises(InvalidProgram, thing, is_counted_good, thing, None, None)

    def test_then_limits(self):
        others = ({"one": 1}, {"one": 1, "two": 1, "three": 1}, {"one": 1, "two": True}, {"one": 1, "two": -1}, {"one": 1, "two": "1"},
                  {"one": 1, "two": 1.0}, {"one": 1, "two": ODD}, {"one": 1, "too": 1}, {"one": 1, 2: 1}, {"one": False, "two": None}, (1, 1))
        for thing in [*ANYTHING, *others]:
            self.raises(InvalidLimits, thing, count, TWO, thing, None, None)
            self.raises(InvalidLimits, thing, lets_count, TWO, thing, None, None, None)
            self.raises(InvalidLimits, thing, sure, TWO, thing, None)
            self.raises(InvalidLimits, thing, is_counted_good, TWO, thing, None)

    def test_then_pools_and_sizes(self):
        for thing in [*ANYTHING, "one", "c", ("a",), -1, 201, True]:
            if not (isinstance(thing, str) and thing in ("a", "b")):
                self.raises(InvalidSizes, thing, count, TWO, self.limits, thing, None)
                self.raises(InvalidSizes, thing, lets_count, TWO, self.limits, thing, None, None)
                self.raises(InvalidSizes, thing, sure, TWO, self.limits, thing)
            if not (type(thing) is int and 0 <= thing <= 200):
                self.raises(InvalidSizes, thing, count, TWO, self.limits, "a", thing)
                self.raises(InvalidSizes, thing, lets_count, TWO, self.limits, "a", thing, None)
            self.raises(InvalidSizes, thing, is_counted_good, TWO, self.limits, thing)
        for sizes in (Sizes({"a": 201}), Sizes({"a": 1, "z": 201}), Sizes({"b": 10 ** 18})):
            self.raises(InvalidSizes, sizes, is_counted_good, TWO, self.limits, sizes)
        self.assertIs(is_counted_good(TWO, self.limits, Sizes({"a": 200, "b": 200, "z": 200})), True)
        self.assertEqual([count(TWO, self.limits, "a", size)[0] for size in (0, 200)], ["stuck", "good"])

    def test_order_of_keys_and_names_of_arguments(self):
        one, other = {"one": 1, "two": 3}, {"two": 3, "one": 1}
        for size in range(12):
            self.assertEqual(count(TWO, one, "a", size), count(TWO, other, "a", size))
        self.assertEqual(sure(TWO, one, "a"), sure(TWO, other, "a"))
        told = count(program=TWO, limits=one, pool="a", size=9)
        self.assertIs(lets_count(program=TWO, limits=other, pool="a", size=9, thing=told), True)
        self.assertEqual(sure(program=TWO, limits=one, pool="b"), 2)
        self.assertIs(is_counted_good(program=TWO, limits=one, sizes=Sizes({"a": 99, "b": 2})), True)

    def test_results_are_new(self):
        told = count(TWO, self.limits, "a", 6)
        told[1][0][0][0].clear()
        told[1][0][1][1].clear()
        told[1].clear()
        self.assertTrue(lets_count(TWO, self.limits, "a", 6, count(TWO, self.limits, "a", 6)))
        points(TWO)["one"].clear()
        self.assertEqual(len(points(TWO)["one"]), 3)


class TestAnyAuthor(Case):
    limits = {"one": 1, "two": 1}

    def lets(self, thing, size=6, program=TWO, limits=None, pool="a"):
        return lets_count(program, limits or self.limits, pool, size, thing)

    def tables(self):
        return count(TWO, self.limits, "a", 6)[1]

    def test_stuck(self):
        right = [[("two", 2, 1, 1), ("one", 1, 2, 1)], [("one", 1, 2, 1), ("two", 2, 1, 1)]]
        for rows in right:
            self.assertIs(self.lets(("stuck", rows), 3), True)
        self.assertIs(self.lets(("stuck", [("one", 1, 2, 1)]), 2), True)
        self.assertIs(self.lets(("stuck", [("two", 0, 3, 1)]), 2), True)
        limits = {"one": 5, "two": None}
        self.assertIs(self.lets(("stuck", [("one", 1, 2, 2), ("one", 1, 2, 3)]), 5, limits=limits), True)
        self.assertIs(self.lets(("stuck", [("one", 1, 2, 2), ("one", 1, 2, 4)]), 6, limits=limits), False)
        self.assertIs(self.lets(("stuck", [("one", 1, 2, 1), ("one", 0, 1, 4)]), 1, limits=limits), True)
        self.assertIs(self.lets(("stuck", [("one", 1, 2, 1), ("one", 0, 1, 5)]), 1, limits=limits), False)
        self.assertIs(self.lets(("stuck", [("two", 2, 1, 10 ** 9)]), 6, limits=limits), False)
        self.assertIs(self.lets(("stuck", [("two", 0, 3, 10 ** 9)]), 2, limits=limits), True)
        for rows in ([], [("one", 1, 2, 1)], [("one", 1, 2, 0)], [("one", 1, 2, True)], [("one", True, 2, 1)], [("one", 1, 2, 1, 1)], [("one", 1, 2)],
                     [["one", 1, 2, 1]], [("one", 1, 1, 1)], [("three", 1, 2, 1)], [("two", 2, 1, 2)], [("two", 2, 1, 1), ("one", 1, 2, 1), ("one", 1, 2, 1)],
                     [("one", 1, 2, -1)], [("a", 1, 2, 1)], [("one", 0, 2, 1)], [("one", 1.0, 2, 1)], right[0] + [ODD], right[0] + [None], tuple(right[0])):
            self.assertIs(self.lets(("stuck", rows), 3), False, rows)
        # With 2 the first row is enough; each of these would be, but for one thing.
        row = ("one", 1, 2, 1)
        for rows in ([("one", True, 2, 1)], [("one", 1, 2, True)], [("one", 1.0, 2, 1)], [row, ("two", 0, 3, 0)], [row, ("two", 0, 3, -1)], [row, (ODD, 0, 3, 1)],
                     [row, (["one"], 0, 3, 1)], [row, ("two", ODD, 3, 1)], [row, ("two", 0, ODD, 1)], [row, ("two", 0, 3, ODD)], [row, ("two", False, 3, 1)], [row, ("two", 0, 3, 2)]):
            self.assertIs(self.lets(("stuck", rows), 2), False, rows)
        self.assertIs(self.lets(("stuck", [row, ("two", 0, 3, 1)]), 2), True)
        self.assertIs(self.lets(["stuck", right[0]], 3), False)
        self.assertIs(self.lets(("stuck", right[0], 1), 3), False)
        self.assertIs(self.lets(("stuck", right[0]), 3, pool="b"), False)
        self.assertIs(self.lets(("good", right[0]), 3), False)
        # More is held than there is.
        self.assertIs(self.lets(("stuck", right[0]), 2), False)

    def test_anything(self):
        for thing in ANYTHING:
            for one in (thing, ("good", thing), ("stuck", thing), (thing, self.tables()), ("good", [thing]), ("stuck", [thing]), ("stuck", [("one", 1, 2, thing)])):
                self.assertIs(self.lets(one), False)
            for at in range(3):
                for part in range(2):
                    tables = self.tables()
                    tables[at][part] = thing
                    self.assertIs(self.lets(("good", tables)), False)
                    tables = self.tables()
                    tables[at][part] = (thing, tables[at][part][1])
                    self.assertIs(self.lets(("good", tables)), False)
                    tables = self.tables()
                    tables[at][part] = (tables[at][part][0], thing)
                    self.assertIs(self.lets(("good", tables)), False)
                    tables = self.tables()
                    tables[at][part][1].append(thing)
                    if type(thing) is not int or thing < 0:
                        self.assertIs(self.lets(("good", tables)), False)
                    tables = self.tables()
                    tables[at][part][0][0] = thing
                    if type(thing) is not int or thing:
                        self.assertIs(self.lets(("good", tables)), False)

    def test_left_out(self):
        self.assertIs(self.lets(("good", self.tables())), True)
        for at in range(3):
            tables = self.tables()
            self.assertIs(self.lets(("good", tables[:at] + tables[at + 1:])), False)
            self.assertIs(self.lets(("good", tables + tables[at:at + 1])), False)
            for part in range(2):
                for total in list(self.tables()[at][part][0]):
                    tables = self.tables()
                    del tables[at][part][0][total]
                    self.assertIs(self.lets(("good", tables)), False)
                    tables = self.tables()
                    tables[at][part][0][total] += 1
                    self.assertIs(self.lets(("good", tables)), False)
                    tables = self.tables()
                    tables[at][part][0][total] = True
                    self.assertIs(self.lets(("good", tables)), False)
                for total in self.tables()[at][part][1]:
                    tables = self.tables()
                    tables[at][part][1].remove(total)
                    self.assertIs(self.lets(("good", tables)), False)
                tables = self.tables()
                tables[at][part] = list(tables[at][part])
                self.assertIs(self.lets(("good", tables)), False)
                tables = self.tables()
                tables[at][part] = (tables[at][part][0], tuple(tables[at][part][1]))
                self.assertIs(self.lets(("good", tables)), False)
                tables = self.tables()
                self.assertIs(self.lets(("good", tables[:at] + [tables[at][:1]] + tables[at + 1:])), False)
                self.assertIs(self.lets(("good", tables[:at] + [tables[at] * 2] + tables[at + 1:])), False)
                self.assertIs(self.lets(("good", tables[:at] + [tuple(tables[at])] + tables[at + 1:])), False)
        self.assertIs(self.lets(("good", tuple(self.tables()))), False)

    def test_more_than_is_needed(self):
        tables = self.tables()
        # In any order, twice, above the size, and sums that nobody has.
        tables[0][1][1].reverse()
        tables[0][1][1].extend([2, 2, 99, 10 ** 30])
        tables[1][0][0][5] = 1
        tables[1][0][1].append(7)
        self.assertIs(self.lets(("good", tables)), False)
        # What was put in has to be gone on from: 5 alone, and 5 with what the next job holds.
        tables[1][0][1].append(5)
        self.assertIs(self.lets(("good", tables)), False)
        tables[1][1][1].append(5)
        self.assertIs(self.lets(("good", tables)), False)
        tables = self.tables()
        tables[1][0][0][4] = 1
        tables[1][0][1].append(4)
        tables[1][1][1].append(4)
        self.assertIs(self.lets(("good", tables)), True)
        # One job more is not within the limit, but from 0 jobs it is.
        tables[1][0][0][4] = 0
        self.assertIs(self.lets(("good", tables)), False)
        tables = self.tables()
        tables[0][0][0][99] = 0
        tables[0][0][1].append(99)
        tables[2][1][0][2] = 3
        tables[2][1][1].append(2)
        self.assertIs(self.lets(("good", tables)), True)
        # The sum that would be stuck must not stand in the last list.
        for at in range(3):
            tables = self.tables()
            tables[at][1][1].append(6 - at)
            self.assertIs(self.lets(("good", tables)), False)

    def test_fewer_than_there_are(self):
        # How few may be told less than it is; then more has to be told behind it.
        limits = {"one": 2}
        tables = [[({0: 0, 1: 1, 2: 2}, [0, 1, 2])]]
        self.assertEqual(count(NESTED_ONCE, limits, "a", 4), ("good", tables))
        self.assertIs(self.lets(("good", [[({0: 0, 1: 0, 2: 1}, [0, 1, 2])]]), 4, NESTED_ONCE, limits), False)
        self.assertIs(self.lets(("good", [[({0: 0, 1: 0, 2: 1, 3: 2}, [0, 1, 2, 3])]]), 4, NESTED_ONCE, limits), True)
        self.assertIs(self.lets(("good", [[({0: 0, 1: 0, 2: 0, 3: 1, 4: 2}, [0, 1, 2, 3, 4])]]), 4, NESTED_ONCE, limits), False)
        self.assertIs(self.lets(("good", [[({0: 0, 1: 1, 2: 3}, [0, 1, 2])]]), 4, NESTED_ONCE, limits), False)

    def test_sums_as_great_as_the_size(self):
        # Three jobs that hold 1 each are stuck with 3; this cannot be left out.
        fewest = {0: 0, 1: 1, 2: 2, 3: 3}
        for some, sums in ((fewest, [0, 1, 2, 3]), (fewest, [0, 1, 2]), ({0: 0, 1: 1, 2: 2}, [0, 1, 2]), ({0: 0, 1: 1, 2: 2, 3: 4}, [0, 1, 2])):
            self.assertIs(self.lets(("good", [[(some, sums)]]), 3, NESTED_ONCE, {"one": 3}), False)
        self.assertIs(self.lets(("good", [[(fewest, [0, 1, 2, 3])]]), 4, NESTED_ONCE, {"one": 3}), True)

    def test_a_rest_of_the_whole_size(self):
        program = jobs("take a 2 { }")
        self.assertEqual(count(program, {"one": 1}, "a", 2), ("good", [[({0: 0}, [0])], [({0: 0}, [0])]]))
        tables = [[({0: 0}, [0])], [({0: 0}, [0])]]
        self.assertIs(self.lets(("good", tables), 2, program, {"one": 1}), True)
        self.assertIs(self.lets(("good", tables), 1, program, {"one": 1}), False)
        self.assertIs(self.lets(("good", tables), 1, program, {"one": 0}), True)
        self.assertIs(self.lets(("good", tables), 1, program, {"one": None}), False)
        self.assertIs(self.lets(("good", []), 0, jobs("run;"), {"one": None}), True)
        self.assertIs(self.lets(("good", []), 1, program, {"one": 0}), False)
