"""[23] jobs that fail, and jobs that give up and begin anew."""

import random

from leastpools.errors import InvalidSizes, InvalidState, NoMove, TooMany
from leastpools.failing import behind_rough, lets_ring, ring_of_repeats, rough_moves
from leastpools.parsing import parse
from leastpools.runs import Run
from leastpools.sizes import Sizes
from leastpools.states import State, empty_state
from leastpools.stuck import stuck_set
from leastpools.verdicts import is_good, reached
from tests.helpers import ANYTHING, CROSSED, ODD, Case, jobs
from tests.model import random_program

PROGRAM = parse(CROSSED)
ONE = Sizes({"a": 1, "b": 1})
MOVES = [("enter", "load", 0), ("enter", "save", 0), ("take", "load", 0, (), 1), ("take", "save", 0, (), 1)]
STUCK = Run(PROGRAM, ONE, MOVES).state
RING = [("again", "load", 1, 0), ("take", "load", 0, (), 1)]


def some_states(most=80):
    """Tuples (program, sizes, states) by chance."""
    for seed in range(most):
        rng = random.Random(seed)
        program = random_program(seed, most_jobs=2)
        sizes = Sizes({pool: rng.randint(1, 3) for pool in program.pools})
        try:
            yield program, sizes, list(reached(program, sizes))
        except TooMany:
            continue


def text_of(state):
    return str(list(state.jobs_by_position().items()))


def has_ring(states):
    """Whether moves of rings can go on forever, by what is left when all states are thrown out from which they cannot."""
    leads = {}
    for state in states:
        rows = [move for move in rough_moves(state) if move[0] == "again" or (move[0] == "take" and move[4] is not None)]
        leads[text_of(state)] = [text_of(behind_rough(state, move)) for move in rows]
    many = -1
    while len(leads) != many:
        many = len(leads)
        leads = {state: some for state, some in leads.items() if any(one in leads for one in some)}
    return many > 0


class TestRoughMoves(Case):
    def test_order(self):
        self.assertEqual(list(rough_moves(STUCK)), [("fail", "load", 1), ("fail", "save", 1), ("again", "load", 1, 0), ("again", "save", 1, 0)])
        state = Run(PROGRAM, ONE, MOVES[:3]).state
        self.assertEqual(list(rough_moves(state)), [("take", "load", 1, (), None), ("take", "save", 0, (), 1), ("fail", "load", 1), ("fail", "save", 0)])
        self.assertEqual(list(rough_moves(empty_state(PROGRAM, ONE))), MOVES[:2])
        # By jobs, then by positions; two jobs at one place are one.
        program = PROGRAM.with_limit("load", 4)
        state = State(program, ONE("a"), {("save", 1): 1, ("load", 1): 2, ("load", 0): 1})
        self.assertEqual(list(rough_moves(state)), [("enter", "load", 0), ("fail", "load", 0), ("fail", "load", 1), ("fail", "save", 1),
                                                    ("again", "load", 0, 0), ("again", "load", 1, 0), ("again", "save", 1, 0)])

    def test_over_at_once(self):
        # Who gives up may not be over at once; first positions stand in order.
        program = jobs("either { } or { either { take a 2 { } } or { take b 1 { take a 2 { } } } }")
        self.assertEqual(program.code("one").first(), [None, 0, 1])
        state = State(program, ONE, {("one", 2): 1})
        self.assertEqual(list(rough_moves(state)), [("fail", "one", 2), ("again", "one", 2, 0), ("again", "one", 2, 1)])
        for move in (("again", "one", 2, None), ("again", "one", 2, 2)):
            self.raises(NoMove, move, behind_rough, state, move)

    def test_a_stuck_strand_inside_a_both(self):
        program = jobs("take a 1 { both { take a 1 { } } and { take b 1 { } } }", "take b 1 { }", limit=1)
        state = State(program, ONE, {("one", (1, 2, 3)): 1, ("two", 0): 1})
        self.assertEqual(list(rough_moves(state))[-3:], [("fail", "one", (1, 2, 3)), ("fail", "two", 0), ("again", "one", (1, 2, 3), 0)])
        self.assertEqual(behind_rough(state, ("again", "one", (1, 2, 3), 0)), State(program, ONE, {("one", 0): 1, ("two", 0): 1}))
        self.assertEqual(behind_rough(state, ("fail", "one", (1, 2, 3))), State(program, ONE, {("two", 0): 1}))

    def test_by_chance(self):
        many = 0
        for program, sizes, states in some_states():
            texts = {text_of(state) for state in states}
            for state in states[:40]:
                there = state.jobs_by_position()
                stuck = [place for place in there if any(row[:2] == place for row in stuck_set(state))]
                later = {name: [one for one in program.code(name).first() if one is not None] for name in program.names()}
                told = list(state.moves()) + [("fail", *place) for place in there] + [("again", *place, one) for place in stuck for one in later[place[0]]]
                self.assertEqual(list(rough_moves(state)), told)
                for move in told:
                    behind = behind_rough(state, move)
                    if move[0] in ("fail", "again"):
                        rest = dict(there)
                        rest[move[1:3]] -= 1
                        if move[0] == "again":
                            rest[(move[1], move[3])] = rest.get((move[1], move[3]), 0) + 1
                        self.assertEqual(behind.jobs_by_position(), {place: one for place, one in rest.items() if one})
                        many += 1
                    else:
                        self.assertEqual(behind, state >> move)
                    # Failures lead nowhere else, so they never make good sizes bad.
                    self.assertIn(text_of(behind), texts)
        self.assertGreater(many, 1000)

    def test_no_moves(self):
        others = [("fail", "load", 0), ("fail", "load", True), ("fail", "load"), ("fail", "load", 1, 1), ["fail", "load", 1], ("fail", "none", 1), ("fail", ODD, 1), ("fail", "load", ODD), ("fail", "load", None),
                  ("again", "load", 1, False), ("again", "load", True, 0), ("again", "load", 1, 1), ("again", "load", 1, None), ("again", "load", 1), ("again", "load", 0, 0), ("again", "none", 1, 0),
                  ["again", "load", 1, 0], ("again", "load", 1, ODD), ("again", ODD, 1, 0), ("again", "load", ODD, 0), ("again", "load", 1, 0, 0), *MOVES]
        for thing in [*ANYTHING, *others]:
            self.raises(NoMove, thing, behind_rough, STUCK, thing)
        # Only who has a stuck strand gives up.
        state = State(PROGRAM, ONE, {("load", 1): 1})
        self.raises(NoMove, RING[0], behind_rough, state, RING[0])
        self.assertEqual(behind_rough(state=state, move=("fail", "load", 1)), empty_state(PROGRAM, ONE))

    def test_no_state(self):
        for thing in [*ANYTHING, PROGRAM]:
            self.raises_when_iterated(InvalidState, thing, rough_moves, thing)
            self.raises(InvalidState, thing, behind_rough, thing, ODD)
        self.assertEqual(len(list(rough_moves(state=STUCK))), 4)

    def test_nothing_is_changed(self):
        before = STUCK.jobs_by_position()
        behind_rough(STUCK, RING[0])
        self.assertEqual(STUCK.jobs_by_position(), before)


class TestRing(Case):
    def test_crossed(self):
        moves, ring = ring_of_repeats(PROGRAM, ONE)
        self.assertIs(lets_ring(PROGRAM, ONE, (moves, ring)), True)
        self.assertEqual(len(ring), 2)
        self.assertIsNone(ring_of_repeats(PROGRAM, ONE("a")))
        self.assertIsNone(ring_of_repeats(program=jobs("run;"), sizes=Sizes({})))
        self.assertIsNone(ring_of_repeats(PROGRAM.with_limit("save", 0), ONE))

    def test_a_ring_of_one_move(self):
        # It begins anew where it is.
        told = ring_of_repeats(jobs("take a 1 { }"), Sizes({}))
        self.assertEqual(told, ([("enter", "one", 0)], [("again", "one", 0, 0)]))
        self.assertIs(lets_ring(jobs("take a 1 { }"), Sizes({}), told), True)

    def test_by_chance(self):
        rings = 0
        for program, sizes, states in some_states():
            told = ring_of_repeats(program, sizes)
            self.assertEqual(told is not None, has_ring(states))
            if is_good(program, sizes):
                self.assertIsNone(told)
            if told is not None:
                rings += 1
                self.assertIs(lets_ring(program, sizes, told), True)
                self.assertIsInstance(told, tuple)
                self.assertIn("again", [move[0] for move in told[1]])
        self.assertGreater(rings, 30)

    def test_raises(self):
        for thing in ANYTHING:
            self.raises(InvalidState, thing, ring_of_repeats, thing, None)
            self.raises(InvalidSizes, thing, ring_of_repeats, PROGRAM, thing)
            self.raises(InvalidState, thing, lets_ring, thing, None, ODD)
            self.raises(InvalidSizes, thing, lets_ring, PROGRAM, thing, ODD)
        large = parse("pools a; job one limit 6 { " + "take a 1 { } " * 8 + "}")
        self.raises(TooMany, 2000, ring_of_repeats, large, Sizes({"a": 9}))
        self.assertIs(lets_ring(large, Sizes({"a": 9}), ([], [])), False)


class TestLetsRing(Case):
    def lets(self, moves, ring, program=PROGRAM, sizes=ONE):
        return lets_ring(program, sizes, (moves, ring))

    def test_rings(self):
        self.assertIs(self.lets(MOVES, RING), True)
        self.assertIs(self.lets(MOVES, RING * 3), True)
        self.assertIs(self.lets([MOVES[1], MOVES[3], MOVES[0], MOVES[2]], RING), True)
        self.assertIs(lets_ring(program=PROGRAM, sizes=ONE, thing=(MOVES, [("again", "save", 1, 0), ("take", "save", 0, (), 1)])), True)
        # The ring may begin anywhere.
        self.assertIs(self.lets([MOVES[0], MOVES[1], MOVES[3]], [MOVES[2], RING[0]]), True)
        # Several jobs give up in turn.
        self.assertIs(self.lets(MOVES, [RING[0], ("take", "save", 1, (), None)]), False)
        self.assertIs(self.lets(MOVES, RING + [("again", "save", 1, 0), ("take", "save", 0, (), 1)]), True)

    def test_no_rings(self):
        # Empty, not back, an enter and a failure in it, a step by which the job leaves.
        for ring in ([], RING[:1], RING[1:], RING[::-1], [*RING, RING[0]], [("fail", "load", 1), *MOVES[:1], MOVES[2]], RING + [("fail", "load", 1)],
                     [("again", "load", 1, False), RING[1]], [RING[0], ("take", "load", 0, (), True)], [["again", "load", 1, 0], RING[1]], [RING[0], ["take", "load", 0, (), 1]]):
            self.assertIs(self.lets(MOVES, ring), False)
        program = PROGRAM.with_limit("load", 2)
        moves = [MOVES[0], *MOVES]
        # One gives up, one leaves, and one enters.
        self.assertIs(self.lets(MOVES, [RING[0], MOVES[3], ("take", "save", 1, (), None), MOVES[1]]), False)
        state = Run(program, ONE("a"), [*moves, MOVES[2]]).state
        self.assertEqual(len(stuck_set(state)), 2)
        self.assertIs(self.lets([*moves, MOVES[2]], RING, program, ONE("a")), True)
        leaving = [("again", "load", 1, 0), ("take", "save", 1, (), None), ("take", "load", 0, (), 1)]
        self.assertIs(self.lets([*moves, MOVES[2]], leaving, program, ONE("a")), False)

    def test_moves(self):
        self.assertIs(self.lets(MOVES[:3], RING), False)
        self.assertIs(self.lets([], RING), False)
        self.assertIs(self.lets(MOVES + [RING[0]], [RING[1], RING[0]]), False)
        self.assertIs(self.lets(MOVES[2:], RING), False)
        self.assertIs(self.lets(MOVES, RING, sizes=ONE("a")), False)

    def test_other_values(self):
        for thing in [*ANYTHING, [MOVES, RING], (MOVES, RING, RING), (MOVES,), (tuple(MOVES), RING), (MOVES, tuple(RING)), (ODD, RING), (MOVES, ODD)]:
            self.assertIs(lets_ring(PROGRAM, ONE, thing), False)
        for thing in ANYTHING:
            self.assertIs(self.lets(MOVES, [thing]), False)
            self.assertIs(self.lets(MOVES, [RING[0], thing]), False)
            self.assertIs(self.lets(MOVES, [*RING, thing]), False)
            self.assertIs(self.lets([thing], RING), False)
            self.assertIs(self.lets([*MOVES, thing], RING), False)
            self.assertIs(self.lets(MOVES, thing) if not isinstance(thing, list) else False, False)

    def test_results_are_new(self):
        moves, ring = ring_of_repeats(PROGRAM, ONE)
        moves.clear()
        ring.clear()
        self.assertIs(lets_ring(PROGRAM, ONE, ring_of_repeats(PROGRAM, ONE)), True)
