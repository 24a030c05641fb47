"""[17] falls and safe states, and `lone_need` of [18]."""

import random
from itertools import combinations, permutations, product

from leastpools.careful import falls, is_safe, lets_safe, lets_unsafe, lone_need, safe_order, unsafe_set
from leastpools.errors import InvalidPosition, InvalidProgram, InvalidState, NoJob, TooMany
from leastpools.parsing import parse
from leastpools.sizes import Sizes
from leastpools.states import State, empty_state
from leastpools.stuck import is_stuck
from leastpools.verdicts import reached
from tests.helpers import ANYTHING, CROSSED, NESTED, ODD, Case, jobs
from tests.model import Model, random_program

PROGRAM = parse(CROSSED)
ONE = Sizes({"a": 1, "b": 1})
DOOMED = State(PROGRAM, ONE, {("load", 1): 1, ("save", 1): 1})
# A position with strands inside strands; each of three strands holds something.
INSIDE = jobs("take a 2 { both { take b 1 { take a 1 { give a 1; } } } and { take b 1 { } take a 1 { } } take b 2 { } give a 1; }", limit=2)
SHOWN = State(INSIDE, Sizes({"a": 5, "b": 3}), {("one", (1, 3, 4)): 1, ("one", (1, 3, 5)): 1})


def told_falls(program, name, position):
    return [(strand, [(str(need), str(given)) for need, given in rows]) for strand, rows in falls(program, name, position)]


def can_end(state, known):
    """Whether a runtime that decides about every take can bring all jobs to their ends, whatever they choose."""
    key = str(list(state.jobs_by_position().items()))
    if key not in known:
        grants = {}
        for move in state.moves():
            if move[0] == "take":
                grants.setdefault(move[:4], []).append(move)
        known[key] = state.job_count == 0 or any(all(can_end(state >> move, known) for move in moves) for moves in grants.values())
    return known[key]


def some_states():
    """States by chance, of programs and sizes by chance."""
    for seed in range(150):
        rng = random.Random(seed)
        program = random_program(seed, most_jobs=2)
        sizes = Sizes({pool: rng.randint(1, 5) for pool in program.pools})
        if all(len(program.code(name).positions()) < 13 for name in program.names()):
            try:
                states = list(reached(program, sizes))
            except TooMany:
                continue
            yield states if len(states) < 200 else []


class Slow:
    """The falls of a state by the words of [17]."""

    def __init__(self, state):
        self.free = state.free
        self.rows = {}
        for (name, position), many in state.jobs_by_position().items():
            for strand, rows in falls(state.program, name, position):
                self.rows[(name, position, strand)] = [(need, given * many) for need, given in rows]

    def inside(self, row):
        name, position, strand = row
        return [part for part in ((name, position, (*strand, side)) for side in (0, 1)) if part in self.rows]

    def is_order(self, thing):
        """Whether each of some falls, all of the state, is possible in this order."""
        free, done = self.free, {row: 0 for row in self.rows}
        for *row, index in thing:
            row = tuple(row)
            need, given = self.rows[row][index]
            if done[row] != index or not need.fits(free):
                return False
            if index == 0 and any(done[part] < len(self.rows[part]) for part in self.inside(row)):
                return False
            free = free + given
            done[row] += 1
        return True

    def is_unsafe_together(self, thing):
        """What lets_unsafe asks for, of a dict from rows to indexes."""
        free = self.free
        for row, rows in self.rows.items():
            for index, (_, given) in enumerate(rows):
                if row not in thing or index < thing[row]:
                    free = free + given
        return len(thing) > 0 and all(
            not self.rows[row][index][0].fits(free) or (index == 0 and any(part in thing for part in self.inside(row)))
            for row, index in thing.items()
        )


class TestFalls(Case):
    def test_one_take(self):
        self.assertEqual(told_falls(PROGRAM, "load", 0), [((), [("a 1 b 1", "-")])])
        self.assertEqual(told_falls(PROGRAM, "load", 1), [((), [("b 1", "a 1"), ("-", "-")])])

    def test_a_take_inside_a_take_counts_from_the_take_on(self):
        program = jobs("take a 2 { take a 3 { take a 1 { } } }")
        self.assertEqual(told_falls(program, "one", 0), [((), [("a 6", "-")])])
        self.assertEqual(told_falls(program, "one", 1), [((), [("a 4", "a 2"), ("-", "-")])])
        self.assertEqual(told_falls(program, "one", 2), [((), [("a 1", "a 3"), ("-", "a 2"), ("-", "-")])])

    def test_gives(self):
        program = jobs("take a 3 { give a 1; take b 1 { } give a 1; run; } take b 2 { }")
        self.assertEqual(told_falls(program, "one", 0), [((), [("a 3 b 2", "-")])])
        self.assertEqual(told_falls(program, "one", 1), [((), [("b 1", "a 1"), ("-", "a 1"), ("b 2", "-")])])
        self.assertEqual(told_falls(program, "one", 2), [((), [("b 2", "-")])])
        # All is given back early: the end of the block gives nothing, but is a fall.
        program = jobs("take a 2 b 1 { take b 3 { } give a 2; take b 5 { } give b 1; }")
        self.assertEqual(told_falls(program, "one", 1), [((), [("b 3", "a 2"), ("b 5", "b 1"), ("-", "-"), ("-", "-")])])
        self.assertEqual(told_falls(program, "one", 2), [((), [("b 5", "b 1"), ("-", "-"), ("-", "-")])])
        # 2 are held at first, 1 when the last take wants 4.
        self.assertEqual(str(lone_need(jobs("take a 2 { take a 2 { } give a 1; take a 4 { } }"))), "a 5")

    def test_choices(self):
        program = jobs("take a 1 { take a 1 { } either { take b 3 { } } or { take a 2 { } repeat 2 { take b 4 { } } } } either { take b 7 { } } or { }")
        self.assertEqual(told_falls(program, "one", 1), [((), [("a 2 b 4", "a 1"), ("b 7", "-")])])
        # In the one code of an either nothing of the other one can come.
        self.assertEqual(told_falls(program, "one", 2), [((), [("b 3", "a 1"), ("b 7", "-")])])
        self.assertEqual(told_falls(program, "one", 3), [((), [("a 2 b 4", "a 1"), ("b 7", "-")])])
        self.assertEqual(told_falls(program, "one", 4), [((), [("b 4", "a 1"), ("b 7", "-")])])
        self.assertEqual(told_falls(program, "one", 5), [((), [("b 4", "a 1"), ("b 7", "-")])])
        self.assertEqual(told_falls(program, "one", 6), [((), [("b 7", "-")])])

    def test_repeats(self):
        program = jobs("repeat 2 { take a 1 { take b 1 { } } take b 3 { } }")
        self.assertEqual(told_falls(program, "one", 1), [((), [("b 1", "a 1"), ("a 1 b 3", "-")])])
        self.assertEqual(told_falls(program, "one", 2), [((), [("a 1 b 3", "-")])])
        self.assertEqual(told_falls(program, "one", 4), [((), [("b 1", "a 1"), ("b 3", "-")])])

    def test_both(self):
        program = parse(NESTED)
        self.assertEqual(told_falls(program, "load", 0), [((), [("a 1 b 2", "-")])])
        rows = [((), [("-", "a 1"), ("-", "-")]), ((0,), [("b 1", "-")]), ((1,), [("b 2", "-")])]
        self.assertEqual(told_falls(program, "load", (1, 2, 3)), rows)
        self.assertEqual(told_falls(program, "load", (1, None, 3)), [rows[0], rows[2]])
        self.assertEqual(told_falls(program, "load", (1, 2, None)), rows[:2])

    def test_behind_a_both(self):
        rows = [((), [("b 2", "a 1"), ("-", "a 1"), ("-", "-")])]
        first = ((0,), [("a 1", "b 1"), ("-", "-")])
        self.assertEqual(told_falls(INSIDE, "one", (1, 3, 4)), rows + [first, ((1,), [("a 1 b 1", "-")])])
        self.assertEqual(told_falls(INSIDE, "one", (1, 3, 5)), rows + [first, ((1,), [("a 1", "-")])])
        self.assertEqual(told_falls(INSIDE, "one", 6), rows)
        # The greater of both strands, not the sum, and with what is held around them.
        self.assertEqual(told_falls(INSIDE, "one", 0), [((), [("a 3 b 2", "-")])])
        program = jobs("take a 1 { take a 1 { } both { take b 2 { } } and { take b 1 { take a 2 { } } } }")
        self.assertEqual(told_falls(program, "one", 1), [((), [("a 2 b 2", "a 1"), ("-", "-")])])

    def test_strands_inside_strands(self):
        program = jobs("both { take a 1 { both { take b 1 { } } and { take a 4 { } take b 3 { } } } take a 2 { } } and { take b 1 { } } take b 5 { }")
        rows = [((), [("b 5", "-")]), ((0,), [("-", "a 1"), ("a 2", "-")]), ((0, 0), [("b 1", "-")]), ((0, 1), [("a 4 b 3", "-")]), ((1,), [("b 1", "-")])]
        self.assertEqual(told_falls(program, "one", (0, (2, 3, 4), 7)), rows)

    def test_calls(self):
        program = jobs("take a 2 { } take b 1 { }", "take a 1 { take b 1 { call one on a; give b 1; run; } }")
        self.assertEqual(told_falls(program, "two", 0), [((), [("a 4 b 2", "-")])])
        self.assertEqual(told_falls(program, "two", 2), [((), [("a 3 b 1", "b 1"), ("-", "-"), ("-", "a 1"), ("-", "-")])])
        self.assertEqual(told_falls(program, "two", 3), [((), [("a 2 b 1", "a 1"), ("-", "b 1"), ("-", "-"), ("-", "a 1"), ("-", "-")])])
        self.assertEqual(told_falls(program, "two", 4), [((), [("b 1", "a 1"), ("-", "b 1"), ("-", "-"), ("-", "a 1"), ("-", "-")])])

    def test_sizes(self):
        for strand, rows in falls(INSIDE, "one", (1, 3, 4)):
            self.assertIsInstance(strand, tuple)
            for row in rows:
                self.assertIsInstance(row, tuple)
                self.assertEqual([type(one) for one in row], [Sizes, Sizes])

    def test_results_are_new(self):
        told = falls(INSIDE, "one", (1, 3, 4))
        told[0][1].clear()
        told.clear()
        self.assertEqual([len(rows) for _, rows in falls(INSIDE, "one", (1, 3, 4))], [3, 2, 1])

    def test_by_chance(self):
        many = 0
        for seed in range(250):
            program = random_program(seed)
            for name in program.names():
                model = Model(program, name)
                for position, way in model.ways().items():
                    many += 1
                    self.assertEqual(falls(program, name, position), model.all_falls(way))
        self.assertGreater(many, 1000)

    def test_raises(self):
        for thing in ANYTHING:
            self.raises(InvalidProgram, thing, falls, thing, None, None)
            if not (isinstance(thing, str) and thing == "load"):
                self.raises(NoJob, thing, falls, PROGRAM, thing, None)
            if not (type(thing) is int and thing in (0, 1)):
                self.raises(InvalidPosition, thing, falls, PROGRAM, "load", thing)
        self.assertEqual(len(falls(program=PROGRAM, name="load", position=0)), 1)


class TestSafe(Case):
    def test_crossed(self):
        self.assertEqual(safe_order(DOOMED), [])
        self.assertEqual(unsafe_set(DOOMED), [("load", 1, (), 0), ("save", 1, (), 0)])
        self.assertIs(is_safe(DOOMED), False)
        state = State(PROGRAM, ONE, {("load", 1): 1, ("save", 0): 1})
        self.assertEqual(safe_order(state), [("load", 1, (), 0), ("load", 1, (), 1), ("save", 0, (), 0)])
        self.assertEqual((unsafe_set(state), is_safe(state)), ([], True))
        state = empty_state(PROGRAM, Sizes({}))
        self.assertEqual((safe_order(state), unsafe_set(state), is_safe(state)), ([], [], True))

    def test_not_stuck_but_not_safe(self):
        program = jobs("take a 1 { take b 1 { take a 1 { } } }", limit=2)
        for many, told in ((1, True), (2, False)):
            state = State(program, Sizes({"a": 2, "b": 1}), {("one", 1): many})
            self.assertEqual((is_stuck(state), is_safe(state)), (False, told))
        self.assertEqual(unsafe_set(state), [("one", 1, (), 0)])

    def test_a_job_that_wants_what_it_holds_itself(self):
        program = jobs("take a 1 { take a 1 { } }")
        state = State(program, Sizes({"a": 1}), {("one", 1): 1})
        self.assertEqual((safe_order(state), unsafe_set(state)), ([], [("one", 1, (), 0)]))
        state = State(program, Sizes({"a": 1}), {("one", 0): 1})
        self.assertEqual((safe_order(state), unsafe_set(state)), ([], [("one", 0, (), 0)]))
        self.assertIs(is_safe(state.at_sizes(Sizes({"a": 2}))), True)

    def test_some_falls_of_a_state_that_is_not_safe(self):
        program = jobs("take a 3 { take b 1 { } give a 1; take b 9 { } }", "take a 2 { take a 1 { } }")
        state = State(program, Sizes({"a": 5, "b": 1}), {("one", 1): 1, ("two", 1): 1})
        # The one gives 1 back, with which the other one comes to its end; then the one wants 9.
        self.assertEqual(safe_order(state), [("one", 1, (), 0), ("two", 1, (), 0), ("two", 1, (), 1)])
        self.assertEqual(unsafe_set(state), [("one", 1, (), 1)])
        self.assertTrue(lets_unsafe(state, [("one", 1, (), 1)]))
        self.assertFalse(lets_unsafe(state, [("one", 1, (), 0)]))
        self.assertFalse(lets_unsafe(state, [("one", 1, (), 1), ("two", 1, (), 0)]))

    def test_order_of_the_unsafe_set(self):
        program = jobs("both { take a 1 { take a 9 { } } } and { take b 1 { } }", "take a 1 { take a 9 { } }", pools="a b", limit=2)
        state = State(program, Sizes({"a": 3}), {("two", 1): 1, ("two", 0): 1, ("one", (0, 2, 3)): 1, ("one", (0, 1, None)): 1})
        self.assertEqual(unsafe_set(state), [
            ("one", (0, 1, None), (), 0), ("one", (0, 1, None), (0,), 0), ("one", (0, 2, 3), (), 0), ("one", (0, 2, 3), (0,), 0),
            ("one", (0, 2, 3), (1,), 0), ("two", 0, (), 0), ("two", 1, (), 0),
        ])

    def test_all_jobs_at_a_position(self):
        program = jobs("take a 1 { take b 1 { } }", "take a 3 { }", limit=3)
        state = State(program, Sizes({"a": 3, "b": 1}), {("one", 1): 3, ("two", 0): 2})
        self.assertEqual(sorted(safe_order(state)), [("one", 1, (), 0), ("one", 1, (), 1), ("two", 0, (), 0)])

    def test_the_order_within_strands(self):
        order = safe_order(SHOWN)
        self.assertEqual((len(order), is_safe(SHOWN)), (12, True))
        self.assertTrue(Slow(SHOWN).is_order(order))
        for (name, position, strand, index) in order:
            if strand:
                self.assertLess(order.index((name, position, strand, index)), order.index((name, position, (), 0)))

    def test_as_a_runtime_could(self):
        told = []
        for states in some_states():
            known = {}
            for state in states:
                safe = can_end(state, known)
                told.append((safe, is_stuck(state)))
                slow = Slow(state)
                self.assertIs(is_safe(state), safe)
                order, rows = safe_order(state), unsafe_set(state)
                self.assertTrue(slow.is_order(order))
                self.assertEqual(len(set(order)), len(order))
                # What is not done in it is not possible: each strand that is left is at its next fall.
                done = [row[:3] for row in order]
                self.assertEqual(rows, [(*row, done.count(row)) for row in slow.rows if done.count(row) < len(slow.rows[row])])
                self.assertIs(rows == [], safe)
                self.assertIs(lets_safe(state, order), safe)
                self.assertIs(lets_unsafe(state, rows), not safe)
        self.assertGreater(min(told.count((True, False)), told.count((False, False)), told.count((False, True))), 100)
        self.assertEqual(told.count((True, True)), 0)

    def test_results_are_new(self):
        safe_order(SHOWN).clear()
        unsafe_set(DOOMED).clear()
        self.assertEqual((len(safe_order(SHOWN)), len(unsafe_set(DOOMED))), (12, 2))

    def test_no_state(self):
        for thing in ANYTHING:
            for call in (safe_order, unsafe_set, is_safe):
                self.raises(InvalidState, thing, call, thing)
            for call in (lets_safe, lets_unsafe):
                self.raises(InvalidState, thing, call, thing, [])
                self.raises(InvalidState, thing, call, thing, ODD)

    def test_names_of_arguments(self):
        self.assertEqual((safe_order(state=DOOMED), len(unsafe_set(state=DOOMED)), is_safe(state=DOOMED)), ([], 2, False))
        self.assertIs(lets_safe(state=SHOWN, thing=safe_order(SHOWN)), True)
        self.assertIs(lets_unsafe(state=DOOMED, thing=unsafe_set(DOOMED)), True)


class TestLetsSafe(Case):
    def test_bent_ones(self):
        order = safe_order(SHOWN)
        self.assertIs(lets_safe(SHOWN, order), True)
        for at, row in enumerate(order):
            name, position, strand, index = row
            self.assertIs(lets_safe(SHOWN, order[:at] + order[at + 1:]), False)
            self.assertIs(lets_safe(SHOWN, order[:at] + [row] + order[at:]), False)
            for other in ((name, position, strand, index + 1), (name, position, strand, index - 1), (name, position, strand, bool(index)), list(row),
                          (name, position, strand), (*row, 0), (name, list(position), strand, index), (name, position, list(strand), index),
                          (name, position, strand, float(index)), ("two", position, strand, index), (name, position[0], strand, index), ODD, None,
                          (name, position, tuple(bool(part) for part in strand) or (0, 0), index), (ODD, position, strand, index), (name, ODD, strand, index),
                          (name, position, ODD, index), (name, position, strand, ODD)):
                self.assertIs(lets_safe(SHOWN, order[:at] + [other] + order[at + 1:]), False)
        self.assertIs(lets_safe(SHOWN, tuple(order)), False)
        self.assertIs(lets_safe(SHOWN, order[::-1]), False)
        self.assertIs(lets_safe(SHOWN, []), False)
        self.assertIs(lets_safe(empty_state(PROGRAM, ONE), []), True)
        for thing in ANYTHING:
            self.assertIs(lets_safe(SHOWN, thing), False)
            self.assertIs(lets_safe(SHOWN, [*order, thing]), False)
            self.assertIs(lets_safe(empty_state(PROGRAM, ONE), thing), isinstance(thing, list) and thing is not ODD and len(thing) == 0)

    def test_all_orders(self):
        program = jobs("take a 2 { both { take b 1 { } } and { } take a 1 { } give a 1; }", "take b 1 { take a 1 { } }", limit=2)
        for amount in (3, 4):
            state = State(program, Sizes({"a": amount, "b": 2}), {("one", (1, 2, None)): 1, ("two", 1): 1})
            slow = Slow(state)
            rows = [(*row, index) for row, some in slow.rows.items() for index in range(len(some))]
            self.assertEqual(len(rows), 6)
            told = [lets_safe(state, list(some)) for some in permutations(rows)]
            self.assertEqual(told, [slow.is_order(some) for some in permutations(rows)])
            self.assertTrue(0 < told.count(True) < 700)


class TestLetsUnsafe(Case):
    def test_bent_ones(self):
        rows = unsafe_set(DOOMED)
        for some in (rows, rows[::-1]):
            self.assertIs(lets_unsafe(DOOMED, some), True)
        # Either one alone: if the other one gave back all, it could go on.
        for thing in (rows[:1], rows[1:], [], rows + rows[:1], tuple(rows), [list(row) for row in rows], [("load", 1, (), 1), rows[1]],
                      [("load", 1, (), 2), rows[1]], [("load", 1, (), -1), rows[1]], [("load", 1, (), False), rows[1]], [("load", True, (), 0), rows[1]],
                      [("load", 1, (0,), 0), rows[1]], [("load", 0, (), 0), rows[1]], rows + [("load", 0, (), 0)], [*rows, ODD], [*rows, None],
                      [("load", 1, (), ODD), rows[1]], [("load", 1, ODD, 0), rows[1]], [("load", ODD, (), 0), rows[1]], [(ODD, 1, (), 0), rows[1]]):
            self.assertIs(lets_unsafe(DOOMED, thing), False)
        for thing in ANYTHING:
            self.assertIs(lets_unsafe(DOOMED, thing), False)
            self.assertIs(lets_unsafe(DOOMED, [*rows, thing]), False)
            self.assertIs(lets_unsafe(SHOWN, thing), False)

    def test_strands_that_wait_at_a_both(self):
        program = jobs("take a 1 { both { take a 1 { } } and { take b 1 { } } }", limit=2)
        state = State(program, Sizes({"a": 1, "b": 1}), {("one", (1, 2, 3)): 1})
        outer, first, second = [("one", (1, 2, 3), strand, 0) for strand in ((), (0,), (1,))]
        self.assertEqual(unsafe_set(state), [outer, first])
        self.assertIs(lets_unsafe(state, [first, outer]), True)
        self.assertIs(lets_unsafe(state, [outer]), False)
        self.assertIs(lets_unsafe(state, [first]), False)
        self.assertIs(lets_unsafe(state, [outer, first, second]), False)
        # Behind its first fall nothing inside it keeps it waiting.
        self.assertIs(lets_unsafe(state, [("one", (1, 2, 3), (), 1), first]), False)

    def test_all_sets(self):
        told = []
        for states in some_states():
            for state in states:
                slow = Slow(state)
                if not 0 < len(slow.rows) < 4:
                    continue
                for many in range(1, len(slow.rows) + 1):
                    for some in combinations(slow.rows, many):
                        for indexes in product(*[range(len(slow.rows[row])) for row in some]):
                            thing = dict(zip(some, indexes))
                            told.append(lets_unsafe(state, [(*row, index) for row, index in thing.items()]))
                            self.assertIs(told[-1], slow.is_unsafe_together(thing))
                            self.assertFalse(told[-1] and is_safe(state))
        self.assertGreater(min(told.count(True), told.count(False)), 300)


class TestLoneNeed(Case):
    def test_examples(self):
        self.assertEqual(str(lone_need(PROGRAM)), "a 1 b 1")
        self.assertEqual(str(lone_need(parse(NESTED))), "a 1 b 2")
        self.assertEqual(str(lone_need(INSIDE)), "a 3 b 2")
        self.assertEqual(str(lone_need(jobs("run;"))), "-")
        self.assertEqual(str(lone_need(jobs("take a 2 { } take a 3 b 1 { take b 9 { } }", "take b 2 { call one on a; }"))), "a 4 b 12")

    def test_limits_of_0(self):
        program = jobs("take a 2 { take b 1 { } }", "take b 3 { }")
        self.assertEqual(str(lone_need(program)), "a 2 b 3")
        self.assertEqual(str(lone_need(program.with_limit("one", 0))), "b 3")
        self.assertEqual(str(lone_need(program.with_limit("two", 0))), "a 2 b 1")
        self.assertEqual(str(lone_need(program.with_limit("two", 6))), "a 2 b 3")
        # A job that is called counts in the code of those that call it.
        program = jobs("take a 2 { }", "call one on b;").with_limit("one", 0)
        self.assertEqual(str(lone_need(program)), "a 2 b 1")

    def test_each_job_alone_is_safe_with_just_this(self):
        for seed in range(150):
            program = random_program(seed)
            need = lone_need(program)
            names = [name for name in program.names() if program.limit(name)]
            for name in names:
                for position in program.code(name).first():
                    if position is not None:
                        self.assertTrue(is_safe(State(program, need, {(name, position): 1})))
            for pool in need:
                less = need - Sizes({pool: 1})
                states = [State(program, less, {(name, position): 1}) for name in names for position in program.code(name).first() if position is not None]
                self.assertFalse(all(is_safe(state) for state in states))

    def test_no_program(self):
        for thing in ANYTHING:
            self.raises(InvalidProgram, thing, lone_need, thing)
        self.assertEqual(lone_need(program=PROGRAM), ONE)
