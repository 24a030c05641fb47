"""[10] runs."""

import random

from leastpools.errors import InvalidSizes, InvalidState, NoMove
from leastpools.parsing import parse
from leastpools.runs import Run
from leastpools.sizes import Sizes
from leastpools.states import empty_state
from tests.helpers import ANYTHING, CROSSED, Case
from tests.model import random_program

PROGRAM = parse(CROSSED)
ONE = Sizes({"a": 1, "b": 1})
MOVES = [("enter", "load", 0), ("enter", "save", 0), ("take", "load", 0, (), 1), ("take", "save", 0, (), 1)]
NO_INDEXES = [thing for thing in ANYTHING if type(thing) is not int or thing not in (0, 1)]


class RunCase(Case):
    def told(self, run):
        """All that a run tells."""
        return (run.done(), list(run), list(run.states()), run.state, len(run), [run[index] for index in range(len(run) + 1)])

    def check(self, run, moves, program=PROGRAM, sizes=ONE):
        states = [empty_state(program, sizes)]
        for move in moves:
            states.append(states[-1] >> move)
        self.assertEqual(self.told(run), (list(moves), states, states, states[-1], len(moves), states))


class TestRuns(RunCase):
    def test_made(self):
        self.check(Run(PROGRAM, ONE), [])
        self.check(Run(PROGRAM, ONE, MOVES), MOVES)
        self.check(Run(program=PROGRAM, sizes=ONE, moves=tuple(MOVES[:3])), MOVES[:3])

    def test_raises(self):
        for thing in ANYTHING:
            self.raises(InvalidState, thing, Run, thing, None, None)
            self.raises(InvalidSizes, thing, Run, PROGRAM, thing, None)
            self.raises(NoMove, thing, Run, PROGRAM, ONE, [MOVES[0], thing, None])
        self.raises(NoMove, MOVES[0], Run, PROGRAM, ONE, [MOVES[0], MOVES[0]])

    def test_called(self):
        run = Run(PROGRAM, ONE)
        for many, move in enumerate(MOVES):
            self.assertEqual(run(move), run.state)
            self.check(run, MOVES[:many + 1])
        run = Run(PROGRAM, ONE)
        self.assertEqual(run(move=MOVES[0]).count("load"), 1)

    def test_nothing_changes_behind_an_exception(self):
        run = Run(PROGRAM, ONE, MOVES[:2])
        for thing in [*ANYTHING, MOVES[0], MOVES[3] + (1,)]:
            self.raises(NoMove, thing, run, thing)
            self.raises(NoMove, thing, run.look_ahead, [MOVES[2], thing])
            self.check(run, MOVES[:2])

    def test_copies(self):
        moves = list(MOVES[:2])
        run = Run(PROGRAM, ONE, moves)
        moves.append(MOVES[2])
        run.done().clear()
        self.check(run, MOVES[:2])

    def test_index(self):
        run = Run(PROGRAM, ONE, MOVES)
        self.assertEqual(run[0], empty_state(PROGRAM, ONE))
        self.assertEqual(run[4], run.state)
        for thing in NO_INDEXES + [5, -1]:
            self.raises(InvalidState, thing, lambda: run[thing])
        self.raises(InvalidState, 1, lambda: Run(PROGRAM, ONE)[1])
        self.assertEqual(Run(PROGRAM, ONE)[0], empty_state(PROGRAM, ONE))

    def test_undo(self):
        run = Run(PROGRAM, ONE, MOVES)
        run.undo()
        self.check(run, MOVES[:3])
        run.undo(0)
        self.check(run, MOVES[:3])
        run.undo(many=2)
        self.check(run, MOVES[:1])
        for thing in NO_INDEXES + [2, -1]:
            self.raises(InvalidState, thing, run.undo, thing)
            self.check(run, MOVES[:1])
        run.undo(1)
        self.check(run, [])
        run.undo(0)
        self.raises(InvalidState, 1, run.undo)
        self.check(run, [])
        run(MOVES[1])
        self.check(run, MOVES[1:2])

    def test_twin(self):
        run = Run(PROGRAM, ONE, MOVES[:2])
        twin = run.twin()
        run(MOVES[2])
        self.check(twin, MOVES[:2])
        twin.undo(2)
        self.check(run, MOVES[:3])
        self.check(twin, [])
        self.assertIsNot(run.twin(), run)

    def test_look_ahead(self):
        run = Run(PROGRAM, ONE, MOVES[:2])
        self.assertEqual(run.look_ahead([]), run.state)
        self.assertEqual(run.look_ahead(moves=tuple(MOVES[2:])), Run(PROGRAM, ONE, MOVES).state)
        self.check(run, MOVES[:2])
        self.raises(NoMove, MOVES[0], run.look_ahead, [MOVES[2], MOVES[0], None])
        self.check(run, MOVES[:2])

    def test_at_sizes(self):
        run = Run(PROGRAM, ONE, MOVES)
        other, index = run.at_sizes(Sizes({"a": 2, "b": 2}))
        self.assertIsNone(index)
        self.check(other, MOVES, sizes=Sizes({"a": 2, "b": 2}))
        other, index = run.at_sizes(sizes=Sizes({"a": 1}))
        self.assertEqual(index, 3)
        self.check(other, MOVES[:3], sizes=Sizes({"a": 1}))
        other, index = run.at_sizes(Sizes({"b": 1}))
        self.assertEqual(index, 2)
        self.assertIsInstance(run.at_sizes(ONE), tuple)
        self.check(run, MOVES)
        self.assertEqual(Run(PROGRAM, ONE).at_sizes(Sizes({}))[1], None)
        for thing in ANYTHING:
            self.raises(InvalidSizes, thing, run.at_sizes, thing)
        self.check(run, MOVES)

    def test_states_are_yielded(self):
        run = Run(PROGRAM, ONE, MOVES)
        told = run.states()
        self.assertEqual(next(told), empty_state(PROGRAM, ONE))
        self.assertEqual([state.job_count for state in run], [0, 1, 2, 2, 2])


class TestTrials(RunCase):
    def test_trial(self):
        run = Run(PROGRAM, ONE, MOVES[:2])
        with run.trial() as same:
            self.assertIs(same, run)
            same(MOVES[2])
            self.check(run, MOVES[:3])
            same.undo(3)
            self.check(run, [])
            same(MOVES[1])
        self.check(run, MOVES[:2])

    def test_exception(self):
        run = Run(PROGRAM, ONE, MOVES[:2])
        with self.assertRaises(NoMove) as caught:
            with run.trial() as same:
                same(MOVES[2])
                same("no move")
        self.assertEqual(caught.exception.value, "no move")
        self.check(run, MOVES[:2])
        error = KeyError("other")
        with self.assertRaises(KeyError) as caught:
            with run.trial():
                run.undo(2)
                raise error
        self.assertIs(caught.exception, error)
        self.check(run, MOVES[:2])

    def test_one_block_behind_another(self):
        run = Run(PROGRAM, ONE, MOVES[:2])
        trial = run.trial()
        for many in (1, 2):
            with trial as same:
                same.undo(many)
            self.check(run, MOVES[:2])
        run(MOVES[2])
        with trial:
            run(MOVES[3])
            self.check(run, MOVES)
        self.check(run, MOVES[:3])
        run(MOVES[3])
        with trial:
            run.undo(4)
        self.check(run, MOVES)

    def test_inside_one_another(self):
        run = Run(PROGRAM, ONE, MOVES[:1])
        self.assertIsNot(run.trial(), run.trial())
        with run.trial():
            run(MOVES[1])
            with run.trial():
                run(MOVES[2])
                run.undo(3)
            self.check(run, MOVES[:2])
            run(MOVES[2])
        self.check(run, MOVES[:1])

    def test_goes_on_behind_a_trial(self):
        run = Run(PROGRAM, ONE, MOVES[:1])
        twin = run.twin()
        with run.trial():
            run(MOVES[1])
            other = run.twin()
        run(MOVES[1])
        run(MOVES[2])
        self.check(run, MOVES[:3])
        self.check(twin, MOVES[:1])
        self.check(other, MOVES[:2])

    def test_return_from_a_block(self):
        run = Run(PROGRAM, ONE, MOVES[:1])

        def ahead():
            with run.trial() as same:
                return same(MOVES[1])

        self.assertEqual(ahead().job_count, 2)
        self.check(run, MOVES[:1])


class TestByChance(RunCase):
    def test_walks(self):
        rng = random.Random(3)
        for seed in range(60):
            program = random_program(seed)
            sizes = Sizes({pool: rng.randint(1, 4) for pool in program.pools})
            run = Run(program, sizes)
            moves = []
            for _ in range(15):
                some = list(run.state.moves())
                if some and rng.random() < 0.8:
                    moves.append(rng.choice(some))
                    run(moves[-1])
                elif moves:
                    many = rng.randint(0, len(moves))
                    moves = moves[:len(moves) - many]
                    run.undo(many)
            self.check(run, moves, program, sizes)
            less = Sizes({pool: rng.randint(0, 4) for pool in program.pools})
            other, index = run.at_sizes(less)
            state = empty_state(program, less)
            for at, move in enumerate(moves):
                if move not in state:
                    self.assertEqual(index, at)
                    break
                state = state >> move
            else:
                self.assertIsNone(index)
            self.check(other, moves if index is None else moves[:index], program, less)

    def test_methods_are_its_own(self):
        for name in ("state", "done", "states", "undo", "twin", "trial", "look_ahead", "at_sizes", "__call__", "__iter__", "__len__",
                     "__getitem__"):
            self.assertIn(name, vars(Run))
