"""[18] careful granting, and guarantee (e) of [4]."""

import random

from leastpools.careful import is_safe, lets_unsafe, lone_need, unsafe_set
from leastpools.errors import InvalidSizes, InvalidState, TooMany
from leastpools.granting import careful_moves, held_back, price, reached_with_care
from leastpools.parsing import parse
from leastpools.sizes import Sizes
from leastpools.states import State, empty_state
from leastpools.stuck import is_stuck
from leastpools.verdicts import is_good, reached
from tests.helpers import ANYTHING, CROSSED, Case, jobs
from tests.model import random_program

PROGRAM = parse(CROSSED)
ONE = Sizes({"a": 1, "b": 1})
HALF = State(PROGRAM, ONE, {("load", 1): 1, ("save", 0): 1})


def grant_of(move):
    return move[:2] if move[0] == "enter" else move[:4]


def some_programs():
    """Tuples (program, sizes) by chance with a few states."""
    for seed in range(200):
        rng = random.Random(seed)
        program = random_program(seed, most_jobs=2)
        sizes = Sizes({pool: rng.randint(1, 4) for pool in program.pools})
        if all(len(program.code(name).positions()) < 10 for name in program.names()):
            yield program, sizes


def slow_care(program, sizes):
    """All states that are reached by careful moves, by the words of [18] alone."""
    found = [empty_state(program, sizes)]
    for state in found:
        for move in careful_moves(state):
            later = state >> move
            if later not in found:
                found.append(later)
    return found


class TestCarefulMoves(Case):
    def test_crossed(self):
        state = empty_state(PROGRAM, ONE)
        self.assertEqual(list(careful_moves(state)), [("enter", "load", 0), ("enter", "save", 0)])
        self.assertEqual(list(held_back(state)), [])
        self.assertEqual(list(careful_moves(HALF)), [("take", "load", 1, (), None)])
        rows = [("load", 1, (), 0), ("save", 1, (), 0)]
        self.assertEqual(list(held_back(HALF)), [(("take", "save", 0, ()), ("take", "save", 0, (), 1), rows)])

    def test_a_grant_is_let_through_whole_or_not_at_all(self):
        # Behind the one choice nothing more is wanted, behind the other one it is.
        program = jobs("take a 1 { either { } or { take b 1 { } } }", "take b 1 { take a 1 { } }", limit=1)
        state = State(program, ONE, {("one", 0): 1, ("two", 1): 1})
        self.assertEqual(list(state.moves()), [("take", "one", 0, (), None), ("take", "one", 0, (), 1), ("take", "two", 1, (), None)])
        self.assertTrue(is_safe(state >> ("take", "one", 0, (), None)))
        told = list(held_back(state))
        self.assertEqual(told, [(("take", "one", 0, ()), ("take", "one", 0, (), 1), [("one", 1, (), 0), ("two", 1, (), 0)])])
        self.assertEqual(list(careful_moves(state)), [("take", "two", 1, (), None)])

    def test_the_first_move_that_is_not_safe(self):
        program = jobs("take a 1 { either { } or { either { take b 1 { } } or { take b 1 { } } } }", "take b 1 { take a 1 { } }", limit=1)
        state = State(program, ONE, {("one", 0): 1, ("two", 1): 1})
        self.assertEqual([row[1] for row in held_back(state)], [("take", "one", 0, (), 1)])

    def test_grants_to_enter(self):
        # With 1 of a, a job that comes to want 2 is not let in; the choice is its own.
        program = jobs("either { take a 1 { } } or { take a 2 { } }", "either { } or { take a 1 { } }", "run;", limit=1)
        state = empty_state(program, Sizes({"a": 1}))
        self.assertEqual(list(careful_moves(state)), [("enter", "two", 0)])
        self.assertEqual(list(held_back(state)), [(("enter", "one"), ("enter", "one", 1), [("one", 1, (), 0)])])
        # A job that cannot be there is no move, and no grant that is held back.
        self.assertEqual([row[0] for row in held_back(empty_state(program.with_limit("one", 0), Sizes({})))], [("enter", "two")])

    def test_strands(self):
        program = jobs("both { take a 1 { take b 1 { } } } and { take b 1 { take a 1 { } } }")
        state = State(program, ONE, {("one", (0, 1, 3)): 1})
        self.assertEqual(list(careful_moves(state)), [("take", "one", (0, 1, 3), (0,), (0, 2, 3)), ("take", "one", (0, 1, 3), (1,), (0, 1, 4))])
        state = State(program, ONE, {("one", (0, 1, 4)): 1})
        self.assertEqual([row[:2] for row in held_back(state)], [(("take", "one", (0, 1, 4), (0,)), ("take", "one", (0, 1, 4), (0,), (0, 2, 4)))])

    def test_in_a_state_that_is_not_safe(self):
        state = State(PROGRAM.with_limit("load", 2), ONE, {("load", 1): 1, ("save", 1): 1})
        self.assertEqual(list(careful_moves(state)), [])
        self.assertEqual([row[0] for row in held_back(state)], [("enter", "load")])

    def test_by_chance(self):
        many = 0
        for program, sizes in some_programs():
            for state in list(reached(program, sizes))[:60]:
                moves = list(state.moves())
                bad = {}
                for move in moves:
                    if not is_safe(state >> move):
                        bad.setdefault(grant_of(move), (grant_of(move), move, unsafe_set(state >> move)))
                self.assertEqual(list(careful_moves(state)), [move for move in moves if grant_of(move) not in bad])
                self.assertEqual(list(held_back(state)), list(bad.values()))
                for _, move, rows in bad.values():
                    self.assertTrue(lets_unsafe(state >> move, rows))
                many += len(bad)
        self.assertGreater(many, 500)

    def test_results_are_new(self):
        for _, _, rows in held_back(HALF):
            rows.clear()
        self.assertEqual([len(rows) for _, _, rows in held_back(HALF)], [2])

    def test_no_state(self):
        for thing in ANYTHING:
            self.raises_when_iterated(InvalidState, thing, careful_moves, thing)
            self.raises_when_iterated(InvalidState, thing, held_back, thing)
        self.assertEqual((len(list(careful_moves(state=HALF))), len(list(held_back(state=HALF)))), (1, 1))


class TestReachedWithCare(Case):
    def test_crossed(self):
        states = list(reached_with_care(PROGRAM, ONE))
        self.assertEqual([state.jobs_by_position() for state in states], [
            {}, {("load", 0): 1}, {("save", 0): 1}, {("load", 0): 1, ("save", 0): 1}, {("load", 1): 1}, {("save", 1): 1},
            {("load", 1): 1, ("save", 0): 1}, {("load", 0): 1, ("save", 1): 1},
        ])
        self.assertTrue(all(isinstance(state, State) and state.sizes == ONE and state.program == PROGRAM for state in states))
        # The last take of each of both is held back while the other one holds.
        self.assertEqual(price(PROGRAM, ONE), 2)
        self.assertEqual(price(PROGRAM, ONE("a")), 0)

    def test_nothing_fits(self):
        self.assertEqual([state.job_count for state in reached_with_care(PROGRAM, Sizes({}))], [0])
        self.assertEqual(price(PROGRAM, Sizes({})), 2)
        self.assertEqual(price(PROGRAM, Sizes({"a": 1, "z": 9})), 2)

    def test_by_chance(self):
        prices = []
        for program, sizes in some_programs():
            try:
                good = is_good(program, sizes)
            except TooMany:
                continue
            told = price(program, sizes)
            prices.append(told)
            self.assertIs(told == 0, good)
            states = list(reached_with_care(program, sizes))
            if len(states) > 60:
                continue
            self.assertEqual(states, slow_care(program, sizes))
            self.assertEqual(told, sum(len(list(held_back(state))) for state in states))
            for state in states:
                # It never gets stuck, and always something goes on.
                self.assertTrue(is_safe(state))
                self.assertFalse(is_stuck(state))
            # Where nothing is held back, all states are reached.
            if good:
                self.assertEqual(states, list(reached(program, sizes)))
        self.assertGreater(min(prices.count(0), sum(one > 0 for one in prices)), 50)

    def test_2000(self):
        three = "take a 1 { take b 1 { take a 1 { } } }"
        text = "pools a b; job one limit 3 {{ {0} }} job two limit 3 {{ {0} }} job three limit {1} {{ take a 1 {{ }} }}"
        sizes = Sizes({"a": 99, "b": 99})
        self.assertEqual(len(list(reached_with_care(parse(text.format(three, 4)), sizes))), 2000)
        self.assertEqual(price(parse(text.format(three, 4)), sizes), 0)
        self.raises_when_iterated(TooMany, 2000, reached_with_care, parse(text.format(three, 5)), sizes)
        self.raises(TooMany, 2000, price, parse(text.format(three, 5)), sizes)

    def test_more_states_without_care(self):
        # 12 * 269 states, of which 12 * 148 are reached with care.
        nested, more = "take a 1 { " * 6 + "} " * 6, "take b 1 { } " * 11
        program = parse(f"pools a b; job one limit 6 {{ {nested} }} job two limit 1 {{ {more} }}")
        sizes = Sizes({"a": 9, "b": 1})
        self.raises(TooMany, 2000, is_good, program, sizes)
        self.assertEqual(len(list(reached_with_care(program, sizes))), 12 * 148)
        self.assertGreater(price(program, sizes), 0)

    def test_raises(self):
        for thing in ANYTHING:
            self.raises_when_iterated(InvalidState, thing, reached_with_care, thing, None)
            self.raises_when_iterated(InvalidSizes, thing, reached_with_care, PROGRAM, thing)
            self.raises(InvalidState, thing, price, thing, None)
            self.raises(InvalidSizes, thing, price, PROGRAM, thing)
        self.assertEqual(len(list(reached_with_care(program=PROGRAM, sizes=ONE))), 8)
        self.assertEqual(price(program=PROGRAM, sizes=ONE), 2)


class TestLoneNeed(Case):
    def test_with_the_lone_need_nobody_waits_outside(self):
        many = 0
        for program, _ in some_programs():
            need = lone_need(program)
            for sizes in (need, need + Sizes({program.pools[0]: 1})):
                for state in list(reached_with_care(program, sizes))[:80]:
                    many += 1
                    self.assertFalse(any(grant[0] == "enter" for grant, _, _ in held_back(state)))
                    self.assertIs(any(move[0] == "take" for move in careful_moves(state)), state.job_count > 0)
            for pool in need:
                less = need - Sizes({pool: 1})
                held = [grant for grant, _, _ in held_back(empty_state(program, less))]
                stays = any(not is_good(program.with_limit(name, 1), less) for name in self.alone(program))
                self.assertTrue(held and stays)
        self.assertGreater(many, 1000)

    def alone(self, program):
        """The names of jobs with limits of at least 1."""
        return [name for name in program.names() if program.limit(name)]
