"""[12] verdicts, and guarantees (b) and (c) of [4]."""

import random

from leastpools.errors import InvalidSizes, InvalidState, TooMany
from leastpools.parsing import parse
from leastpools.runs import Run
from leastpools.sizes import Sizes
from leastpools.states import State, empty_state
from leastpools.stuck import is_stuck, lets_order, stuck_set
from leastpools.verdicts import is_good, lets_verdict, reached, verdict
from tests.helpers import ANYTHING, CROSSED, ODD, Case
from tests.model import random_program

PROGRAM = parse(CROSSED)
ONE = Sizes({"a": 1, "b": 1})
TWO = Sizes({"a": 2, "b": 1})
MOVES = [("enter", "load", 0), ("enter", "save", 0), ("take", "load", 0, (), 1), ("take", "save", 0, (), 1)]
THREE = "take a 1 { take b 1 { take a 1 { } } }"
FEW = Sizes({"a": 99, "b": 99})


def wide(last):
    """20 * 20 * so many states as the last job alone can have, with FEW."""
    return parse(f"pools a b; job one limit 3 {{ {THREE} }} job two limit 3 {{ {THREE} }} job three limit {last} {{ take a 1 {{ }} }}")


def exactly_2001():
    """3 * 23 * 29 states."""
    both = "both { " + "take a 1 { } " * 3 + "} and { " + "take a 1 { } " * 6 + "}"
    takes = "take a 1 { } " * 22
    return parse(f"pools a b; job one limit 2 {{ take a 1 {{ }} }} job two limit 1 {{ {takes} }} job three limit 1 {{ take b 1 {{ {both} }} }}")


def slow_search(program, sizes):
    """All states with their distances, by the moves of [9] alone."""
    found = [(empty_state(program, sizes), 0)]
    keys = {str(list(found[0][0].jobs_by_position().items()))}
    for state, far in found:
        for move in state.moves():
            later = state >> move
            key = str(list(later.jobs_by_position().items()))
            if key not in keys:
                keys.add(key)
                found.append((later, far + 1))
    return found


def same(thing):
    """A value of equal parts that shares no list and no dict."""
    if isinstance(thing, (list, tuple)):
        return type(thing)(same(part) for part in thing)
    return dict(thing) if isinstance(thing, dict) else thing


class TestExamples(Case):
    def test_document(self):
        self.assertEqual([is_good(PROGRAM, ONE), is_good(PROGRAM, ONE("a"))], [False, True])
        told = verdict(PROGRAM, ONE)
        self.assertEqual((told[0], len(told[1])), ("stuck", 4))
        self.assertEqual(sorted(map(str, told[1])), sorted(map(str, MOVES)))
        self.assertEqual(stuck_set(Run(PROGRAM, ONE, told[1]).state), [("load", 1, ()), ("save", 1, ())])

    def test_good(self):
        word, rows = verdict(PROGRAM, TWO)
        self.assertEqual(word, "good")
        # Each job is outside, at its first take or at its second one.
        self.assertEqual(len(rows), 9)
        for row in rows:
            self.assertIsInstance(row, tuple)
            self.assertTrue(lets_order(State(PROGRAM, TWO, row[0]), row[1]))
        self.assertEqual(rows[0], ({}, []))
        self.assertTrue(lets_verdict(PROGRAM, TWO, (word, rows)))

    def test_nothing_to_do(self):
        for program in (PROGRAM.with_limit("load", 0).with_limit("save", 0), parse("pools a; job one limit 6 { run; }")):
            self.assertEqual(verdict(program, Sizes({})), ("good", [({}, [])]))
            self.assertEqual([state.job_count for state in reached(program, Sizes({}))], [0])
            self.assertIs(is_good(program, Sizes({})), True)

    def test_stuck_at_once(self):
        self.assertEqual(verdict(PROGRAM, Sizes({"a": 1})), ("stuck", [("enter", "save", 0)]))
        self.assertEqual(len(verdict(PROGRAM, Sizes({}))[1]), 1)

    def test_other_pools(self):
        self.assertIs(is_good(PROGRAM, Sizes({"a": 1, "b": 1, "z": 9})), False)
        self.assertIs(is_good(PROGRAM, Sizes({"a": 2, "b": 1, "z": 9})), True)
        self.assertEqual([state.sizes["z"] for state in reached(PROGRAM, Sizes({"z": 9}))], [9] * 4)

    def test_raises(self):
        for thing in ANYTHING:
            for call in (verdict, is_good):
                self.raises(InvalidState, thing, call, thing, None)
                self.raises(InvalidSizes, thing, call, PROGRAM, thing)
            self.raises_when_iterated(InvalidState, thing, reached, thing, None)
            self.raises_when_iterated(InvalidSizes, thing, reached, PROGRAM, thing)
            self.raises(InvalidState, thing, lets_verdict, thing, None, None)
            self.raises(InvalidSizes, thing, lets_verdict, PROGRAM, thing, None)
            self.raises(InvalidState, thing, lets_verdict, thing, ONE, ("good", []))
            self.raises(InvalidSizes, thing, lets_verdict, PROGRAM, thing, ODD)

    def test_names_of_arguments(self):
        self.assertEqual(verdict(program=PROGRAM, sizes=TWO)[0], "good")
        self.assertEqual(len(list(reached(program=PROGRAM, sizes=TWO))), 9)
        self.assertTrue(is_good(program=PROGRAM, sizes=TWO))
        self.assertTrue(lets_verdict(program=PROGRAM, sizes=TWO, thing=verdict(PROGRAM, TWO)))

    def test_results_are_new(self):
        verdict(PROGRAM, TWO)[1].clear()
        told = verdict(PROGRAM, TWO)
        told[1][0][0].clear()
        told[1][3][1].clear()
        self.assertTrue(lets_verdict(PROGRAM, TWO, verdict(PROGRAM, TWO)))


class TestMany(Case):
    def test_2000(self):
        program = wide(4)
        self.assertEqual(len(list(reached(program, FEW))), 2000)
        told = verdict(program, FEW)
        self.assertEqual((told[0], len(told[1])), ("good", 2000))
        self.assertTrue(lets_verdict(program, FEW, told))
        self.assertIs(is_good(program, FEW), True)

    def test_more(self):
        for program in (wide(5), exactly_2001()):
            self.raises_when_iterated(TooMany, 2000, reached, program, FEW)
            self.raises(TooMany, 2000, verdict, program, FEW)
            self.raises(TooMany, 2000, is_good, program, FEW)
        self.assertEqual(len(list(reached(exactly_2001().with_limit("one", 1), FEW))), 2 * 23 * 29)

    def test_more_though_stuck(self):
        program = parse("pools a b z; job one limit 3 { " + THREE + " } job two limit 3 { " + THREE + " } job three limit 5 { take z 1 { } }")
        sizes = Sizes({"a": 99, "b": 99})
        self.raises(TooMany, 2000, verdict, program, sizes)
        self.raises(TooMany, 2000, is_good, program, sizes)
        self.assertTrue(lets_verdict(program, sizes, ("stuck", [("enter", "three", 0)])))
        self.assertFalse(lets_verdict(program, sizes, ("good", [])))


class TestByChance(Case):
    def test_search(self):
        rng = random.Random(2)
        words = []
        for seed in range(120):
            program = random_program(seed, most_jobs=2)
            sizes = Sizes({pool: rng.randint(1, 3) for pool in program.pools})
            slow = slow_search(program, sizes) if len(program.code(program.names()[0]).positions()) < 12 else []
            if not slow or len(slow) > 400:
                continue
            self.assertEqual(list(reached(program, sizes)), [state for state, _ in slow])
            far = [distance for state, distance in slow if is_stuck(state)]
            told = verdict(program, sizes)
            words.append(told[0])
            self.assertIs(is_good(program, sizes), not far)
            self.assertEqual(told[0], "stuck" if far else "good")
            self.assertTrue(lets_verdict(program, sizes, told))
            self.assertTrue(lets_verdict(program, sizes, same(told)))
            if far:
                state = Run(program, sizes, told[1]).state
                self.assertEqual(len(told[1]), min(far))
                # Each job has a stuck strand at the end.
                self.assertEqual({row[:2] for row in stuck_set(state)}, set(state.jobs_by_position()))
                self.assertFalse(lets_verdict(program, sizes, ("good", [(state.jobs_by_position(), []) for state, _ in slow])))
            else:
                self.assertEqual([jobs for jobs, _ in told[1]], [state.jobs_by_position() for state, _ in slow])
                for name in program.names():
                    if program.limit(name):
                        self.assertTrue(is_good(program.with_limit(name, program.limit(name) - 1), sizes))
        self.assertGreater(words.count("stuck"), 20)
        self.assertGreater(words.count("good"), 20)


class TestAnyAuthor(Case):
    rows = verdict(PROGRAM, TWO)[1]

    def good(self, rows, program=PROGRAM, sizes=TWO):
        return lets_verdict(program, sizes, ("good", rows))

    def test_stuck(self):
        self.assertIs(lets_verdict(PROGRAM, ONE, ("stuck", MOVES)), True)
        self.assertIs(lets_verdict(PROGRAM, ONE, ("stuck", [MOVES[1], MOVES[0], MOVES[3], MOVES[2]])), True)
        longer = [MOVES[0], MOVES[2], ("take", "load", 1, (), None), *MOVES]
        self.assertIs(lets_verdict(PROGRAM, ONE, ("stuck", longer)), True)
        wrong = [("stuck", MOVES[:3]), ("stuck", []), ("stuck", tuple(MOVES)), ["stuck", MOVES], ("stuck", MOVES, 1), ("stuck",),
                 ("stuck", [*MOVES, MOVES[0]]), ("stuck", [list(move) for move in MOVES]), ("stuck", [MOVES[1]] + MOVES), MOVES,
                 ("stuck", MOVES[:3] + [("take", "save", False, (), 1)]), ("stuck", MOVES[:3] + [("take", "save", 0, (), True)]),
                 ("stuck", [*MOVES[:3], ODD]), ("good", MOVES), ("Stuck", MOVES), (b"stuck", MOVES), ("bad", MOVES), ("stuck", None)]
        for thing in [*wrong, *ANYTHING]:
            self.assertIs(lets_verdict(PROGRAM, ONE, thing), False)
        self.assertIs(lets_verdict(PROGRAM, TWO, ("stuck", MOVES)), False)

    def test_rows(self):
        self.assertIs(self.good(self.rows), True)
        self.assertIs(self.good(self.rows[::-1]), True)
        self.assertIs(self.good(self.rows + self.rows), True)
        self.assertIs(self.good(same(self.rows)), True)
        # The order of the keys means nothing.
        self.assertIs(self.good([(dict(reversed(list(jobs.items()))), order) for jobs, order in self.rows]), True)
        for at in range(len(self.rows)):
            self.assertIs(self.good(self.rows[:at] + self.rows[at + 1:]), False)
        for thing in (tuple(self.rows), [list(row) for row in self.rows], [], self.rows + [ODD], self.rows + [None],
                      self.rows + [({}, [], 1)], self.rows + [({},)], self.rows + [({}, ())], self.rows + [({}, None)],
                      self.rows + [(None, [])], self.rows + [({}, [("load", 0, ())])], self.rows + [(ODD, [])], {}, ODD):
            self.assertIs(self.good(thing), False)
        for thing in ANYTHING:
            self.assertIs(lets_verdict(PROGRAM, TWO, thing), False)
            self.assertIs(lets_verdict(PROGRAM, TWO, (thing, self.rows)), False)
            self.assertIs(self.good(self.rows + [thing]), False)
            if not isinstance(thing, list) or thing:
                self.assertIs(self.good(self.rows + [({}, thing)]), False)

    def test_counts_of_any_size(self):
        # 10 ** 15 jobs would not fit into any list.
        for many in (2, 3, 10 ** 15, 0, -1, -10 ** 15):
            for extra in ({("load", 0): many}, {("load", 0): 1, ("load", 1): many}):
                self.assertIs(self.good([*self.rows, (extra, [])]), False)

    def test_keys_that_are_no_places(self):
        for key in (None, 0, 1, "load", (), ("load",), ("load", 0, 0), (0, 0), ("load", 7), ("load", -1), ("none", 0), ("load", "0"), ("load", None), ("load", 1.0),
                    (ODD.__class__, 0), frozenset(["load", 0]), ("load", (0, 0, 0)), (("load", 0), 0), (b"load", 0)):
            self.assertIs(self.good([*self.rows, ({key: 1}, [])]), False)
            self.assertIs(self.good([*self.rows, ({key: 1}, [("load", 0, ())])]), False)

    def test_jobs_that_could_not_be(self):
        # The limit holds for all positions together.
        two = {("load", 0): 1, ("load", 1): 1}
        order = [("load", 0, ()), ("load", 1, ())]
        self.assertTrue(lets_order(State(PROGRAM.with_limit("load", 2), TWO, two), order))
        self.assertFalse(self.good([*self.rows, (two, order)]))
        alone = PROGRAM.with_limit("save", 0)
        rows = verdict(alone, ONE)[1]
        self.assertTrue(self.good(rows, alone, ONE))
        self.assertFalse(self.good([*rows, (two, order[::-1])], alone, ONE))
        # Two jobs cannot hold one place of a, though what they want is free.
        program = PROGRAM.with_limit("load", 2).with_limit("save", 0)
        rows = verdict(program, ONE)[1]
        self.assertTrue(self.good(rows, program, ONE))
        self.assertFalse(self.good([*rows, ({("load", 1): 2}, [("load", 1, ())])], program, ONE))
        self.assertTrue(self.good([*rows, ({("load", 0): 1, ("load", 1): 1}, order[::-1])], program, ONE))

    def test_bent_rows(self):
        for at, (jobs, order) in enumerate(self.rows):
            def bent(row):
                return self.good(self.rows[:at] + [row] + self.rows[at + 1:])
            self.assertTrue(bent((jobs, order)))
            if order:
                self.assertFalse(bent((jobs, order[:-1])))
                self.assertFalse(bent((jobs, order + order[:1])))
                self.assertFalse(bent((jobs, tuple(order))))
                self.assertFalse(bent((jobs, [list(row) for row in order])))
                self.assertFalse(bent((jobs, [(name, bool(position), strand) for name, position, strand in order])))
                self.assertFalse(bent(({key: True for key in jobs}, order)))
                self.assertFalse(bent(({(name, bool(position)): 1 for name, position in jobs}, order)))
                self.assertFalse(bent(({key: 2 for key in jobs}, order)))
        held = ({("load", 1): 1, ("save", 1): 1}, [("load", 1, ()), ("save", 1, ())])
        rows = [row for row in self.rows if row[0] != held[0]]
        self.assertEqual(len(rows), 8)
        self.assertFalse(self.good(rows + [held]))
        self.assertTrue(self.good(rows + [(held[0], held[1][::-1])]))

    def test_other_programs_and_sizes(self):
        program = parse("pools a b; job one limit 2 { take a 2 { take b 1 { } } }")
        sizes = Sizes({"a": 2, "b": 1})
        rows = verdict(program, sizes)[1]
        small = program.with_limit("one", 1)
        fewer = verdict(small, sizes)[1]
        self.assertEqual([self.good(rows, program, sizes), self.good(fewer, small, sizes)], [True, True])
        self.assertEqual([self.good(rows, small, sizes), self.good(fewer, program, sizes)], [False, False])
        self.assertEqual([self.good(rows, program, sizes("a")), self.good(rows, program, sizes("b", 7))], [True, True])
        # With more of a there are more states; with less, some hold too much.
        self.assertEqual([self.good(rows, program, sizes("a", 2)), self.good(rows, program, Sizes({"a": 1, "b": 1}))], [False, False])

    def test_states_that_are_not_reached(self):
        # With 2 of a nobody takes while another one holds, but two could hold 1 each.
        text = "pools a b; job one limit 2 { take a 2 { give a 1; take b 1 { } } }"
        program, sizes = parse(text), Sizes({"a": 2, "b": 1})
        rows = verdict(program, sizes)[1]
        jobs = {("one", 1): 2}
        self.assertNotIn(jobs, [row[0] for row in rows])
        self.assertTrue(self.good(rows, program, sizes))
        self.assertTrue(self.good(rows + [(jobs, [("one", 1, ())])], program, sizes))
        self.assertTrue(self.good([(jobs, [("one", 1, ())])] + rows, program, sizes))
        self.assertFalse(self.good(rows + [(jobs, [])], program, sizes))
        # With a third job there are moves from this state to others that are not reached, either.
        program = program.with_limit("one", 3)
        rows = verdict(program, sizes)[1] + [(jobs, [("one", 1, ())])]
        self.assertFalse(self.good(rows, program, sizes))
        behind = {("one", 0): 1, ("one", 1): 2}
        self.assertTrue(self.good(rows + [(behind, [("one", 1, ()), ("one", 0, ())])], program, sizes))
        self.assertFalse(self.good(rows + [(behind, [("one", 0, ()), ("one", 1, ())])], program, sizes))
        # A state that could not be is none.
        self.assertFalse(self.good(rows + [({("one", 1): 3}, [("one", 1, ())])], program, sizes))
