"""[14] where a run gets stuck, and its kernel."""

import random

from leastpools.errors import InvalidProgram, InvalidState, NoMove, TooMany
from leastpools.grids import Goods
from leastpools.kernels import kernel, spread
from leastpools.parsing import parse
from leastpools.runs import Run
from leastpools.sizes import Sizes
from leastpools.states import empty_state
from leastpools.stuck import is_stuck, stuck_set
from tests.helpers import ANYTHING, CROSSED, Case
from tests.model import random_program

PROGRAM = parse(CROSSED)
ONE = Sizes({"a": 1, "b": 1})
MOVES = [("enter", "load", 0), ("enter", "save", 0), ("take", "load", 0, (), 1), ("take", "save", 0, (), 1)]


def slow_spread(program, moves):
    """The sizes of the grid, by doing the moves at each of them."""
    found = []
    for sizes, _ in Goods(program).grid():
        state = empty_state(program, sizes)
        for move in moves:
            if move not in state:
                break
            state = state >> move
        else:
            if is_stuck(state):
                found.append(sizes)
    return found


def random_run(program, seed, most=30):
    """A run by chance, with sizes by chance."""
    rng = random.Random(seed)
    run = Run(program, Sizes({pool: rng.randint(1, 4) for pool in program.pools}))
    for _ in range(most):
        moves = list(run.state.moves())
        if moves:
            run(rng.choice(moves))
    return run


class TestSpread(Case):
    def texts(self, program, moves):
        return [str(sizes) for sizes in spread(program, moves)]

    def test_where_it_gets_stuck(self):
        self.assertEqual(self.texts(PROGRAM, MOVES), ["a 1 b 1"])
        self.assertEqual(self.texts(PROGRAM, MOVES[:3]), ["a 1", "a 2"])
        self.assertEqual(self.texts(PROGRAM, MOVES[:2]), ["-", "b 1", "b 2", "a 1", "a 2"])
        self.assertEqual(self.texts(PROGRAM, MOVES[:1]), ["-", "b 1", "b 2"])
        self.assertEqual(self.texts(PROGRAM, []), [])

    def test_order_of_the_pools(self):
        program = parse(CROSSED.replace("pools a b", "pools b a"))
        self.assertEqual(self.texts(program, MOVES[:2]), ["-", "a 1", "a 2", "b 1", "b 2"])

    def test_nowhere(self):
        last = ("take", "load", 1, (), None)
        for moves in (MOVES[1:], MOVES[:1] * 2, MOVES[2:], [*MOVES[:3], last], [*MOVES, MOVES[0]]):
            self.assertEqual(spread(PROGRAM, moves), [])
        for thing in ANYTHING:
            self.assertEqual(spread(PROGRAM, [thing]), [])
            self.assertEqual(spread(PROGRAM, [*MOVES, thing]), [])
        for move in (("enter", "load", False), ("enter", "load", None), ["enter", "load", 0], ("take", "load", 0, (), True), ("take", "load", 0, [], 1)):
            self.assertEqual(spread(PROGRAM, [MOVES[0], move]), [])

    def test_raises(self):
        large = PROGRAM.with_limit("load", 6).with_limit("save", 6).with_code("load", (("take", (("a", 9), ("b", 9)), ()),))
        for thing in ANYTHING:
            self.raises(InvalidProgram, thing, spread, thing, None)
            if not isinstance(thing, list):
                self.raises(NoMove, thing, spread, PROGRAM, thing)
            self.raises(TooMany, 400, spread, large, thing)
        self.raises(NoMove, tuple(MOVES), spread, PROGRAM, tuple(MOVES))
        self.assertEqual(spread(program=PROGRAM, moves=list(MOVES)), [ONE])

    def test_400(self):
        # 20 * 20 sizes, and 21 * 20.
        text = "pools a b; job one limit 1 {{ take a {} {{ take a 9 {{ take a 1 {{ }} }} }} }} job two limit 1 {{ take b 9 {{ take b 9 {{ take b 1 {{ }} }} }} }}"
        self.assertEqual(len(spread(parse(text.format(9)), [("enter", "one", 0)])), 9 * 20)
        self.assertEqual(len(spread(parse(text.format(8)), [("enter", "one", 0)])), 8 * 20)
        more = parse(text.format(9).replace("take a 1", "take a 2"))
        self.raises(TooMany, 400, spread, more, [("enter", "one", 0)])

    def test_by_chance(self):
        many = 0
        for seed in range(150):
            program = random_program(seed, most_jobs=2)
            try:
                Goods(program)
            except TooMany:
                continue
            moves = random_run(program, seed, 12).done()
            told = spread(program, moves)
            many += len(told)
            self.assertEqual(told, slow_spread(program, moves))
        self.assertGreater(many, 500)


class TestKernel(Case):
    def test_all_moves(self):
        run = Run(PROGRAM, ONE, MOVES)
        told = kernel(run)
        self.assertIsInstance(told, Run)
        self.assertIsNot(told, run)
        self.assertEqual((told.done(), told.state), (MOVES, run.state))
        self.assertEqual((told.state.program, told.state.sizes), (PROGRAM, ONE))
        told.undo()
        self.assertEqual(len(run), 4)

    def test_no_stuck_strand(self):
        run = Run(PROGRAM, ONE, MOVES[:3])
        told = kernel(run)
        self.assertEqual((len(told), told.state), (0, empty_state(PROGRAM, ONE)))
        self.assertEqual(run.done(), MOVES[:3])
        self.assertEqual(len(kernel(Run(PROGRAM, ONE("z", 3)))), 0)
        self.assertEqual(kernel(Run(PROGRAM, ONE("z", 3))).state.sizes["z"], 3)

    def test_jobs_that_left_and_jobs_that_are_not_stuck(self):
        program = PROGRAM.with_limit("load", 2)
        gone = [("enter", "load", 0), ("take", "load", 0, (), 1), ("take", "load", 1, (), None)]
        moves = gone + MOVES
        self.assertEqual(kernel(Run(program, ONE, moves)).done(), MOVES)
        moves = [gone[0], gone[1], MOVES[0], gone[2], *MOVES[1:]]
        self.assertEqual(kernel(Run(program, ONE, moves)).done(), MOVES)

    def test_alike_jobs(self):
        text = "pools a b c; job load limit 3 { take a 1 { take b 1 { } } take c 1 { } } job save limit 1 { take b 1 { take a 1 { } } }"
        program, sizes = parse(text), Sizes({"a": 1, "b": 1, "c": 1})
        moves = [("enter", "load", 0), ("enter", "load", 0), ("take", "load", 0, (), 1), ("take", "load", 1, (), 2),
                 ("enter", "save", 0), ("take", "load", 0, (), 1), ("take", "save", 0, (), 1)]
        run = Run(program, sizes, moves)
        self.assertEqual(stuck_set(run.state), [("load", 1, ()), ("save", 1, ())])
        told = kernel(run)
        self.assertEqual(stuck_set(told.state), stuck_set(run.state))
        self.assertEqual(told.state.jobs_by_position(), {("load", 1): 1, ("save", 1): 1})
        self.assertEqual(len(told), 4)
        self.assertEqual(run.done(), moves)
        # Several jobs at one place with a stuck strand all stay.
        run(("enter", "load", 0))
        told = kernel(run)
        self.assertEqual(told.state.jobs_by_position(), {("load", 0): 1, ("load", 1): 1, ("save", 1): 1})

    def test_a_job_with_one_stuck_strand(self):
        program = parse("pools a b; job one limit 2 { take a 1 { both { take a 1 { } } and { take b 1 { } } } }")
        moves = [("enter", "one", 0), ("take", "one", 0, (), (1, 2, 3)), ("take", "one", (1, 2, 3), (1,), (1, 2, None))]
        for many in (2, 3):
            run = Run(program, ONE, moves[:many])
            self.assertEqual(kernel(run).done(), moves[:many])

    def test_no_run(self):
        for thing in [*ANYTHING, MOVES, empty_state(PROGRAM, ONE)]:
            self.raises(InvalidState, thing, kernel, thing)
        self.assertEqual(len(kernel(run=Run(PROGRAM, ONE))), 0)

    def test_by_chance(self):
        many = 0
        for seed in range(200):
            run = random_run(random_program(seed), seed)
            before = (run.done(), run.state)
            told = kernel(run)
            self.assertEqual((run.done(), run.state), before)
            rows = stuck_set(run.state)
            self.assertEqual(stuck_set(told.state), rows)
            stuck = {row[:2] for row in rows}
            jobs = run.state.jobs_by_position()
            self.assertEqual(told.state.jobs_by_position(), {key: jobs[key] for key in jobs if key in stuck})
            # The moves are some of the run, in order.
            rest = iter(run.done())
            self.assertTrue(all(move in rest for move in told.done()))
            many += len(told)
        self.assertGreater(many, 200)
