"""[9], [12], [14], [28]: runs as checkers follow them, held against the moves of states."""

import random

from leastpools.gates import peak
from leastpools.grids import caps
from leastpools.errors import NoMove
from leastpools.parsing import parse
from leastpools.runs import Run
from leastpools.sizes import Sizes
from leastpools.states import empty_state
from leastpools.stuck import is_stuck
from leastpools.verdicts import lets_verdict, verdict
from tests.helpers import ANYTHING, CROSSED, ODD, Case, jobs
from tests.model import random_program

PROGRAM = parse(CROSSED)
ONE = Sizes({"a": 1, "b": 1})
INSIDE = jobs("take a 1 { both { take b 1 { } } and { take c 1 { } take b 2 { } } }", pools="a b c", limit=2)


def lead(program, sizes, moves):
    """Whether moves are possible and lead to a state with a stuck strand, by states alone."""
    state = empty_state(program, sizes)
    for move in moves:
        if move not in state:
            return False
        state = state >> move
    return is_stuck(state)


def bent(move, program, rng):
    """A move with one part put otherwise."""
    parts = list(move)
    at = rng.randrange(1, len(parts))
    name = rng.choice(program.names())
    positions = [*program.code(name).positions(), None, 0, 99]
    choices = {1: [*program.names(), "none"], 2: positions, 3: [(), (0,), (1,), (0, 1), [], 0], 4: positions}
    parts[at] = rng.choice(choices[at])
    return tuple(parts)


class TestRuns(Case):
    def test_by_chance(self):
        both = [0, 0]
        for seed in range(300):
            rng = random.Random(seed)
            program = random_program(seed)
            sizes = Sizes({pool: rng.randint(0, 2) for pool in program.pools})
            run = Run(program, sizes)
            for _ in range(rng.randint(1, 10)):
                some = list(run.state.moves())
                if some:
                    run(rng.choice(some))
            moves = run.done()
            lists = [moves, moves[:-1], moves[1:]]
            for _ in range(8):
                at = rng.randrange(len(moves) + 1)
                lists.append(moves[:at] + [bent(move, program, rng) for move in moves[at:at + 1]] + moves[at + 1:])
                lists.append(moves[:at] + moves[at:at + 1] * 2 + moves[at + 1:])
            for some in lists:
                right = lead(program, sizes, some)
                both[right] += 1
                self.assertIs(lets_verdict(program, sizes, ("stuck", some)), right)
                self.check_peak(program, some)
        self.assertGreater(min(both), 500)

    def check_peak(self, program, moves):
        """A run has a peak just if it is possible with the caps."""
        state = empty_state(program, caps(program))
        for move in moves:
            if move not in state:
                self.raises(NoMove, move, peak, program, moves)
                return
            state = state >> move
        self.assertIsInstance(peak(program, moves), Sizes)

    def test_no_moves(self):
        right = [("enter", "one", 0), ("take", "one", 0, (), (1, 2, 3))]
        self.assertIsInstance(peak(INSIDE, right + [("take", "one", (1, 2, 3), (0,), (1, None, 3))]), Sizes)
        others = [("enter", "one", 0, 0), ("enter", "one"), ("enter", "one", (1, 2, 3)), ("enter", "one", None), ("enter", "one", False), ("enter", "none", 0), ["enter", "one", 0], ("enter", ODD, 0), ("enter", "one", ODD),
                  ("take", "one", (1, 2, 3), (0,)), ("take", "one", (1, 2, 3), (0,), (1, None, 3), 1), ("take", "one", (1, 2, 3), (1,), (1, None, 3)), ("take", "one", (1, 2, 3), (0,), (1, 2, 4)),
                  ("take", "one", (1, 2, 3), (0,), None), ("take", "one", (1, 2, 3), (), (1, None, 3)), ("take", "one", (1, 2, 3), (False,), (1, None, 3)), ("take", "one", (1, 2, 3), [0], (1, None, 3)),
                  ("take", "one", (1, 2, 3), ODD, (1, None, 3)), ("take", "one", (1, 2, 3), (0,), ODD), ("take", "one", (True, 2, 3), (0,), (1, None, 3)), ("take", "one", (1, 2, 3), (0,), (True, None, 3)),
                  ("take", "one", 0, (), (1, 2, 3)), ("take", "none", (1, 2, 3), (0,), (1, None, 3)), ("take", ODD, (1, 2, 3), (0,), (1, None, 3)), ("take", "one", ODD, (0,), (1, None, 3)), ("fail", "one", (1, 2, 3))]
        for thing in [*ANYTHING, *others[1:]]:
            self.raises(NoMove, thing, peak, INSIDE.with_limit("one", 1), right + [thing])
            self.assertIs(lets_verdict(INSIDE, ONE, ("stuck", right + [thing])), False)
        self.raises(NoMove, others[0], peak, INSIDE, right + others[:1])

    def test_limits(self):
        moves = [("enter", "one", 0)] * 2
        self.assertIs(lets_verdict(INSIDE, Sizes({}), ("stuck", moves)), True)
        self.assertIs(lets_verdict(INSIDE, Sizes({}), ("stuck", moves + moves[:1])), False)
        self.assertIs(lets_verdict(INSIDE.with_limit("one", 0), Sizes({}), ("stuck", moves[:1])), False)
        self.assertIs(lets_verdict(PROGRAM, ONE, ("stuck", [("enter", "load", 0), ("take", "load", 0, (), 1), ("enter", "load", 0)])), False)


class TestTables(Case):
    def test_jobs_that_hold_more_than_there_is(self):
        program = jobs("take a 1 { take b 1 { } }", limit=2)
        sizes = Sizes({"a": 1, "b": 9})
        word, rows = verdict(program, sizes)
        self.assertEqual((word, lets_verdict(program, sizes, (word, rows))), ("good", True))
        # All could go on, but it is no state.
        more = ({("one", 1): 2}, [("one", 1, ())])
        self.assertIs(lets_verdict(program, sizes, (word, rows + [more])), False)
        self.assertIs(lets_verdict(program, sizes("a"), verdict(program, sizes("a"))), True)
        self.assertIn(more, verdict(program, sizes("a"))[1])
