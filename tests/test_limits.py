"""[19] limits as unknowns, and guarantee (f) of [4] for limits."""

import random
from itertools import product

from leastpools.errors import InvalidLimits, InvalidProgram, InvalidSizes, TooMany
from leastpools.limits import endless_from, greatest_limits, lets_limits, limits_paper, with_limits
from leastpools.parsing import parse
from leastpools.programs import Program
from leastpools.sizes import Sizes
from leastpools.verdicts import is_good, verdict
from tests.helpers import ANYTHING, CROSSED, ODD, Case, jobs
from tests.model import random_program

PROGRAM = parse(CROSSED)
ONE = Sizes({"a": 1, "b": 1})
NESTED_ONCE = jobs("take a 1 { take a 1 { } }")
# With 3 states for each job, and 6 of a.
LARGE = jobs("take a 1 { take a 1 { take a 1 { } } } take a 1 { }", "take a 1 { take a 1 { take a 1 { } } } take a 1 { }")


def is_under(limits, some):
    return any(all(most is None or limit <= most for limit, most in zip(limits, one)) for one in some)


def some_programs():
    """Tuples (program, sizes) by chance."""
    for seed in range(90):
        rng = random.Random(seed)
        pairs = [(rng.choice(("a 1", "b 1", "a 2")), rng.choice(("a 1", "b 1", "b 2"))) for _ in range(rng.choice((1, 2, 2, 2, 3)))]
        most = 2 if len(pairs) == 3 else 3
        yield jobs(*[f"take {one} {{ take {other} {{ }} }}" for one, other in pairs]), Sizes({"a": rng.randint(1, most), "b": rng.randint(1, most)})
        program = random_program(seed, most_jobs=3 if seed % 5 == 0 else 2)
        sizes = Sizes({pool: rng.randint(0, 2) for pool in program.pools})
        if all(len(program.code(name).positions()) < 7 for name in program.names()):
            yield program, sizes


class TestEndless(Case):
    def test_the_amounts(self):
        for amounts, told in (({}, 1), ({"a": 1}, 1), ({"a": 1, "b": 1}, 2), ({"a": 6}, 6), ({"a": 2, "b": 4}, 6), ({"b": 3, "z": 99}, 3), ({"z": 7}, 1)):
            self.assertEqual(endless_from(PROGRAM, Sizes(amounts)), told)

    def test_too_many(self):
        for amounts in ({"a": 7}, {"a": 3, "b": 4}, {"a": 10 ** 30}):
            for call in (endless_from, greatest_limits, limits_paper):
                self.raises(TooMany, 6, call, PROGRAM, Sizes(amounts))
            self.raises(TooMany, 6, lets_limits, PROGRAM, Sizes(amounts), None)

    def test_a_greater_limit_is_as_good(self):
        for program, sizes in some_programs():
            most = endless_from(program, sizes)
            for limits in product((most, 6), repeat=min(2, len(program))):
                try:
                    told = [is_good(with_limits(program, some), sizes) for some in (limits + (1,) * (len(program) - len(limits)), (most,) * len(limits) + (1,) * (len(program) - len(limits)))]
                except TooMany:
                    continue
                self.assertEqual(told[0], told[1])


class TestWithLimits(Case):
    def test_others(self):
        told = with_limits(PROGRAM, (0, 6))
        self.assertIsInstance(told, Program)
        self.assertEqual([told.limit(name) for name in told.names()], [0, 6])
        self.assertEqual(told, PROGRAM.with_limit("load", 0).with_limit("save", 6))
        self.assertEqual(with_limits(PROGRAM, (1, 1)), PROGRAM)
        self.assertEqual(PROGRAM.limit("load"), 1)

    def test_wrong_ones(self):
        for thing in [*ANYTHING, (1,), (1, 1, 1), [1, 1], (7, 1), (1, -1), (True, 1), (1, False), (1, None), (1, 1.0), (1, "1"), (1, ODD), {0: 1, 1: 1}]:
            if repr(thing) != "(1, 2)":
                self.raises(InvalidLimits, thing, with_limits, PROGRAM, thing)


class TestGreatestLimits(Case):
    def test_crossed(self):
        self.assertEqual(greatest_limits(PROGRAM, ONE), [(0, None), (None, 0)])
        self.assertEqual(greatest_limits(PROGRAM, ONE("a")), [(1, None), (None, 0)])
        self.assertEqual(greatest_limits(PROGRAM, Sizes({})), [(0, 0)])
        self.assertEqual(greatest_limits(PROGRAM, Sizes({"a": 1, "z": 5})), [(0, 0)])
        self.assertEqual(greatest_limits(jobs("take a 1 { } take b 1 { }"), ONE), [(None,)])

    def test_limits_of_the_program_play_no_part(self):
        for limits in product((0, 1, 6), repeat=2):
            self.assertEqual(greatest_limits(with_limits(PROGRAM, limits), ONE("a")), [(1, None), (None, 0)])

    def test_numbers(self):
        for number in range(7):
            self.assertEqual(greatest_limits(NESTED_ONCE, Sizes({"a": number})), [(max(0, number - 1),)])
        self.assertEqual(greatest_limits(jobs("take b 1 { }"), Sizes({})), [(0,)])
        self.assertEqual(greatest_limits(jobs("take b 1 { }"), Sizes({"b": 1})), [(None,)])

    def test_order(self):
        program = jobs("take a 1 { take a 1 { } }", "take a 2 { take a 1 { } }", "take b 1 { }")
        told = greatest_limits(program, Sizes({"a": 4, "b": 1}))
        self.assertEqual(told, sorted(told, key=lambda row: [9 if one is None else one for one in row]))
        self.assertGreater(len(told), 1)
        self.assertTrue(all(row[2] is None for row in told))
        # None stands behind the integers.
        self.assertEqual(greatest_limits(jobs("take a 1 { take b 1 { } }", "take b 1 { take a 1 { } }"), Sizes({"a": 2, "b": 2})),
                         [(1, None), (None, 1)])

    def test_by_chance(self):
        many = []
        between = 0
        for program, sizes in some_programs():
            try:
                told = greatest_limits(program, sizes)
            except TooMany:
                continue
            most = endless_from(program, sizes)
            many.append(len(told))
            for limits in product(range(most + 1), repeat=len(program)):
                self.assertIs(is_under(limits, told), is_good(with_limits(program, limits), sizes))
            for one in told:
                self.assertTrue(all(limit is None or 0 <= limit < most for limit in one))
                plain = tuple(most if limit is None else limit for limit in one)
                self.assertFalse(is_under(plain, [other for other in told if other != one]))
            self.assertEqual(told, sorted(set(told), key=lambda row: [9 if one is None else one for one in row]))
            between += sum(limit not in (0, None) for one in told for limit in one)
        self.assertGreater(many.count(1), 60)
        self.assertGreater(len(many) - many.count(1), 4)
        self.assertGreater(between, 15)

    def test_more_than_2000_states(self):
        # With limits of 1 there are few states, with greater ones too many.
        sizes = Sizes({"a": 6})
        self.assertGreater(len(LARGE), 1)
        self.assertIs(is_good(LARGE, sizes), True)
        self.raises(TooMany, 2000, is_good, with_limits(LARGE, (6, 6)), sizes)
        self.raises(TooMany, 2000, greatest_limits, LARGE, sizes)
        self.raises(TooMany, 2000, limits_paper, LARGE, sizes)


class TestPapers(Case):
    def test_crossed(self):
        told = limits_paper(PROGRAM, ONE)
        self.assertIsInstance(told, tuple)
        good, bad = told
        self.assertEqual([limits for limits, _ in good], [(0, 2), (2, 0)])
        self.assertEqual([limits for limits, _ in bad], [(1, 1)])
        self.assertEqual((good[0][1], bad[0][1]), (verdict(with_limits(PROGRAM, (0, 2)), ONE)[1], verdict(PROGRAM, ONE)[1]))
        self.assertIs(lets_limits(PROGRAM, ONE, told), True)
        self.assertIs(lets_limits(with_limits(PROGRAM, (6, 0)), ONE, told), True)
        self.assertIs(lets_limits(PROGRAM, ONE("a"), told), False)
        self.assertIs(lets_limits(PROGRAM, ONE("z"), told), True)

    def test_by_chance(self):
        for program, sizes in some_programs():
            try:
                told = limits_paper(program, sizes)
            except TooMany:
                continue
            self.assertIs(lets_limits(program, sizes, told), True)
            good, bad = told
            for at in range(len(good)):
                self.assertIs(lets_limits(program, sizes, (good[:at] + good[at + 1:], bad)), False)
                self.assertIs(lets_limits(program, sizes, (good, bad + good[at:at + 1])), False)
            for at in range(len(bad)):
                self.assertIs(lets_limits(program, sizes, (good, bad[:at] + bad[at + 1:])), False)
                self.assertIs(lets_limits(program, sizes, (good + bad[at:at + 1], bad)), False)

    def test_any_author(self):
        good, bad = limits_paper(PROGRAM, ONE)
        def lets(good, bad):
            return lets_limits(PROGRAM, ONE, (good, bad))
        self.assertIs(lets(good[::-1] + good, bad + bad), True)
        # More rows than are needed: all limits that are good, and others that are bad.
        def row(word, limits):
            told = verdict(with_limits(PROGRAM, limits), ONE)
            self.assertEqual(told[0], word)
            return (limits, told[1])
        more = [row("good", (0, number)) for number in range(3)] + [row("good", (number, 0)) for number in range(3)]
        self.assertIs(lets(more, bad + [row("stuck", (2, 1)), row("stuck", (2, 2))]), True)
        self.assertIs(lets(more, [row("stuck", (2, 1)), row("stuck", (1, 2)), row("stuck", (1, 1))]), True)
        self.assertIs(lets(more, [row("stuck", (2, 1)), row("stuck", (1, 2))]), False)
        self.assertIs(lets(more[:5], bad), False)
        for at, (limits, rows) in enumerate(good):
            for one in ((limits[::-1], rows), (list(limits), rows), (limits, tuple(rows)), (limits, rows[1:]), (limits, rows[:-1]), [limits, rows],
                        (limits,), (limits, rows, 1), (limits, bad[0][1]), ((3, 0), rows), ((0, 3), rows), (limits[:1], rows), (limits + (0,), rows),
                        (tuple(bool(limit) for limit in limits), rows), ((None, 0), rows), ((-1, 2), rows), ODD, (ODD, rows), (limits, ODD), ((ODD, 2), rows)):
                self.assertIs(lets(good[:at] + [one] + good[at + 1:], bad), False)
        limits, moves = bad[0]
        for one in ((limits, moves[:-1]), (limits, tuple(moves)), ((True, True), moves), ([1, 1], moves), (limits, good[0][1]), ((1, 2), moves), ODD, (limits, ODD)):
            self.assertIs(lets(good, [one]), False)
        # A run that gets stuck with lower limits gets stuck with greater ones, too.
        self.assertIs(lets(good, [(limits, moves), ((1, 2), moves)]), True)
        self.assertIs(lets(good, [((0, 2), moves), bad[0]]), False)
        self.assertIs(lets(bad, good), False)
        self.assertIs(lets(tuple(good), bad), False)
        self.assertIs(lets(good, tuple(bad)), False)
        for thing in [*ANYTHING, [good, bad], (good,), (good, bad, []), (good, bad, ODD), {0: good, 1: bad}]:
            self.assertIs(lets_limits(PROGRAM, ONE, thing), False)
            self.assertIs(lets(good, thing), False)
            self.assertIs(lets(thing, bad), False)
            self.assertIs(lets(good + [thing], bad), False)
            self.assertIs(lets(good, bad + [thing]), False)

    def test_all_good(self):
        program = jobs("take a 1 { }")
        rows = verdict(with_limits(program, (1,)), ONE)[1]
        self.assertEqual(limits_paper(program, Sizes({"a": 1})), ([((1,), verdict(program, Sizes({"a": 1}))[1])], []))
        self.assertIs(lets_limits(program, Sizes({"a": 1}), ([((1,), rows)], [])), True)
        # With one of b, too, endless begins at 2.
        self.assertIs(lets_limits(program, ONE, ([((1,), rows)], [])), False)

    def test_no_limit_of_states_for_the_checker(self):
        self.assertIs(lets_limits(LARGE, Sizes({"a": 6}), ([], [])), False)
        self.assertIs(lets_limits(LARGE, Sizes({"a": 6}), None), False)
        moves = [("enter", "one", 0)] * 2 + [("take", "one", 0, (), 1)] * 2
        self.assertIs(lets_limits(LARGE, Sizes({"a": 6}), ([((0, 0), [({}, [])])], [((6, 6), moves)])), False)

    def test_results_are_new(self):
        limits_paper(PROGRAM, ONE)[0].clear()
        limits_paper(PROGRAM, ONE)[0][0][1].clear()
        greatest_limits(PROGRAM, ONE).clear()
        self.assertIs(lets_limits(PROGRAM, ONE, limits_paper(PROGRAM, ONE)), True)
        self.assertEqual(len(greatest_limits(PROGRAM, ONE)), 2)


class TestWrongInputs(Case):
    def test_raises(self):
        for thing in ANYTHING:
            for call in (endless_from, greatest_limits, limits_paper):
                self.raises(InvalidProgram, thing, call, thing, None)
                self.raises(InvalidSizes, thing, call, PROGRAM, thing)
            self.raises(InvalidProgram, thing, with_limits, thing, None)
            self.raises(InvalidProgram, thing, lets_limits, thing, None, None)
            self.raises(InvalidSizes, thing, lets_limits, PROGRAM, thing, None)

    def test_names_of_arguments(self):
        self.assertEqual(endless_from(program=PROGRAM, sizes=ONE), 2)
        self.assertEqual(with_limits(program=PROGRAM, limits=(1, 1)), PROGRAM)
        self.assertEqual(len(greatest_limits(program=PROGRAM, sizes=ONE)), 2)
        self.assertIs(lets_limits(program=PROGRAM, sizes=ONE, thing=limits_paper(program=PROGRAM, sizes=ONE)), True)
