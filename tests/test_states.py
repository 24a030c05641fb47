"""[9] states and their moves."""

import random

from leastpools.errors import InvalidSizes, InvalidState, NoJob, NoMove
from leastpools.parsing import parse
from leastpools.sizes import Sizes
from leastpools.states import State, empty_state
from tests.helpers import ANYTHING, CROSSED, NESTED, ODD, Case
from tests.model import flat, random_program, strands_at

PROGRAM = parse(CROSSED)
ONE = Sizes({"a": 1, "b": 1})
WIDE = parse(
    "pools a b; job one limit 2 { either { } or { take b 1 { } } take a 1 { both { take b 1 { } } and { take b 2 { } } } }"
    " job two limit 0 { take a 1 { } } job three limit 1 { either { } or { take a 1 { take b 1 { } } } }"
)


def all_moves_slowly(state):
    """All moves, told from the code alone."""
    moves = []
    there = state.jobs_by_position()
    for name in state.program.names():
        if sum(many for (other, _), many in there.items() if other == name) < state.program.limit(name):
            moves.extend(("enter", name, position) for position in state.program.code(name).first() if position is not None)
    for name in state.program.names():
        for position in sorted((position for other, position in there if other == name), key=flat):
            wants = dict(state.program.code(name).takers(position))
            for strand in sorted(strands_at(position)):
                if strand in wants and wants[strand].fits(state.free):
                    for later in state.program.code(name).after(position, strand):
                        moves.append(("take", name, position, strand, later))
    return moves


class TestMade(Case):
    def test_empty(self):
        state = empty_state(PROGRAM, ONE)
        self.assertEqual((state.program, state.sizes), (PROGRAM, ONE))
        self.assertEqual((str(state.held), state.free, state.job_count, state.jobs_by_position()), ("-", ONE, 0, {}))
        self.assertEqual(state, State(PROGRAM, ONE, {}))
        self.assertEqual(empty_state(program=PROGRAM, sizes=ONE), state)

    def test_jobs(self):
        program = parse(NESTED)
        sizes = Sizes({"a": 3, "b": 3, "z": 7})
        state = State(program=program, sizes=sizes, jobs={("load", (1, 2, 3)): 1, ("load", 0): 1})
        self.assertEqual((str(state.held), str(state.free)), ("a 1", "a 2 b 3 z 7"))
        self.assertEqual((state.job_count, state.count("load"), state.count(name="load")), (2, 2, 2))
        self.assertEqual(list(state.jobs_by_position().items()), [(("load", 0), 1), (("load", (1, 2, 3)), 1)])

    def test_several_at_one_position(self):
        state = State(parse(NESTED), Sizes({"a": 2}), {("load", (1, 2, 3)): 2})
        self.assertEqual((str(state.held), str(state.free), state.job_count), ("a 2", "-", 2))

    def test_order_of_checks(self):
        for thing in ANYTHING:
            self.raises(InvalidState, thing, State, thing, None, None)
            self.raises(InvalidState, thing, empty_state, thing, None)
            self.raises(InvalidSizes, thing, State, PROGRAM, thing, None)
            self.raises(InvalidSizes, thing, empty_state, PROGRAM, thing)
            if not isinstance(thing, dict) or thing:
                self.raises(InvalidState, thing, State, PROGRAM, ONE, thing)

    def test_wrong_jobs(self):
        many = Sizes({"a": 9, "b": 9})
        for jobs in ({("load", 0): 0}, {("load", 0): -1}, {("load", 0): True}, {("load", 0): 1.0}, {("load", 0): "1"},
                     {("load", 0): None}, {("load", 0): ODD}, {("load", 2): 1}, {("load", None): 1}, {("load", False): 1},
                     {("load", True): 1}, {("load", 0.0): 1}, {("mend", 0): 1}, {(1, 0): 1}, {("load", 0, 1): 1}, {("load",): 1},
                     {"load": 1}, {0: 1}, {("load", (0, 1, 2)): 1}, {("load", 0): 2}, {("load", 0): 1, ("load", 1): 1},
                     {("save", 0): 1, ("load", 5): 1}):
            self.raises(InvalidState, jobs, State, PROGRAM, many, jobs)

    def test_limits(self):
        program = PROGRAM.with_limit("load", 3).with_limit("save", 0)
        sizes = Sizes({"a": 9, "b": 9})
        self.assertEqual(State(program, sizes, {("load", 0): 2, ("load", 1): 1}).job_count, 3)
        for jobs in ({("load", 0): 2, ("load", 1): 2}, {("load", 0): 4}, {("save", 0): 1}):
            self.raises(InvalidState, jobs, State, program, sizes, jobs)

    def test_holds_at_most_sizes(self):
        program = PROGRAM.with_limit("load", 6)
        self.assertEqual(State(program, Sizes({"a": 3}), {("load", 1): 3}).free, Sizes({}))
        jobs = {("load", 1): 4}
        self.raises(InvalidState, jobs, State, program, Sizes({"a": 3, "b": 9}), jobs)
        jobs = {("load", 1): 1, ("save", 1): 1}
        self.raises(InvalidState, jobs, State, PROGRAM, Sizes({"a": 1}), jobs)

    def test_copies(self):
        jobs = {("load", 0): 1}
        state = State(PROGRAM, ONE, jobs)
        jobs[("load", 0)] = 7
        jobs.clear()
        state.jobs_by_position().clear()
        state.jobs_by_position()[("save", 0)] = 1
        self.assertEqual(state.jobs_by_position(), {("load", 0): 1})

    def test_equality(self):
        program = parse(NESTED).with_limit("load", 6)
        sizes = Sizes({"a": 6})
        there = {("load", (1, 2, 3)): 1, ("load", 0): 2, ("load", (1, None, 3)): 1}
        one = State(program, sizes, there)
        other = State(parse(NESTED).with_limit("load", 6), Sizes({"a": 6, "b": 0}), dict(reversed(list(there.items()))))
        self.assertTrue(one == other)
        self.assertEqual(list(one.jobs_by_position()), list(other.jobs_by_position()))
        self.assertEqual(list(one.moves()), list(other.moves()))
        self.assertFalse(one == State(program, Sizes({"a": 7}), there))
        self.assertFalse(one == State(program, Sizes({"a": 6, "z": 1}), there))
        self.assertFalse(one == State(program.with_limit("load", 5), sizes, there))
        self.assertFalse(one == State(program, sizes, {("load", 0): 2}))
        for thing in ANYTHING:
            if thing is not ODD:
                self.assertFalse(one == thing)

    def test_count(self):
        state = State(PROGRAM, ONE, {("load", 0): 1})
        self.assertEqual((state.count("load"), state.count("save")), (1, 0))
        for thing in ANYTHING:
            if not isinstance(thing, str) or thing != "load":
                self.raises(NoJob, thing, state.count, thing)


class TestMoves(Case):
    def test_enter(self):
        state = empty_state(PROGRAM, Sizes({}))
        self.assertEqual(list(state.moves()), [("enter", "load", 0), ("enter", "save", 0)])
        behind = state >> ("enter", "load", 0)
        self.assertEqual(behind.jobs_by_position(), {("load", 0): 1})
        self.assertEqual(state.jobs_by_position(), {})
        # The limit is reached.
        self.assertEqual(list(behind.moves()), [("enter", "save", 0)])
        self.raises(NoMove, ("enter", "load", 0), lambda: behind >> ("enter", "load", 0))
        self.assertEqual(list(empty_state(PROGRAM.with_limit("load", 0), ONE).moves()), [("enter", "save", 0)])

    def test_just_enough(self):
        program = parse("pools a b; job one limit 2 { take a 2 b 1 { take a 1 { } } }")
        jobs = {("one", 0): 2}
        self.assertIn(("take", "one", 0, (), 1), State(program, Sizes({"a": 2, "b": 1}), jobs))
        for amounts in ({"a": 1, "b": 1}, {"a": 2}, {"b": 5}, {"z": 9}, {}):
            state = State(program, Sizes(amounts), jobs)
            self.assertNotIn(("take", "one", 0, (), 1), state)
            self.assertEqual(list(state.moves()), [])
        state = State(program, Sizes({"a": 2, "b": 1}), jobs) >> ("take", "one", 0, (), 1)
        self.assertEqual((state.jobs_by_position(), str(state.held)), ({("one", 0): 1, ("one", 1): 1}, "a 2 b 1"))
        self.assertEqual(list(state.moves()), [])
        state = state.at_sizes(Sizes({"a": 3, "b": 1}))
        self.assertEqual(list(state.moves()), [("take", "one", 1, (), None)])
        self.assertEqual((state >> ("take", "one", 1, (), None)).jobs_by_position(), {("one", 0): 1})

    def test_order(self):
        sizes = Sizes({"a": 9, "b": 9})
        state = State(WIDE, sizes, {("three", 0): 1, ("one", (2, 3, 4)): 1})
        self.assertEqual(list(state.moves()), [
            ("enter", "one", 0), ("enter", "one", 1),
            ("take", "one", (2, 3, 4), (0,), (2, None, 4)), ("take", "one", (2, 3, 4), (1,), (2, 3, None)),
            ("take", "three", 0, (), 1),
        ])
        self.assertEqual(list(empty_state(WIDE, sizes).moves()), [("enter", "one", 0), ("enter", "one", 1), ("enter", "three", 0)])

    def test_later_positions_in_order(self):
        program = parse("pools a b; job one limit 1 { take a 1 { repeat 1 { take b 1 { } } either { take a 1 { } } or { } } }")
        state = State(program, Sizes({"a": 1}), {("one", 0): 1})
        self.assertEqual(list(state.moves()), [("take", "one", 0, (), later) for later in (None, 1, 2)])

    def test_over_at_once_is_no_move(self):
        state = empty_state(WIDE, ONE)
        self.assertNotIn(("enter", "three", None), state)
        self.raises(NoMove, ("enter", "three", None), lambda: state >> ("enter", "three", None))
        self.assertEqual(list(empty_state(parse("pools a; job one limit 6 { run; }"), ONE).moves()), [])

    def test_no_moves(self):
        state = State(PROGRAM, Sizes({"a": 1, "b": 1}), {("load", 1): 1})
        wrong = list(ANYTHING) + [
            ("enter", "save", False), ("enter", "save", 1), ("enter", "mend", 0), ("enter", "save", 0, 0), ("enter", "save"),
            ["enter", "save", 0], ("enter", "save", 0.0), ("enter", "save", None), ("enter", ["save"], 0), ("Enter", "save", 0),
            ("take", "load", 1, (), 0), ("take", "load", 1, (), 1), ("take", "load", True, (), None), ("take", "load", 1, (0,), None),
            ("take", "load", 1, [], None), ("take", "load", 1, None, None), ("take", "load", 1, (), ()), ("take", "load", 1, ()),
            ("take", "load", 1, (), None, None), ["take", "load", 1, (), None], ("take", "load", 0, (), 1),
            ("take", "save", 0, (), 1), ("take", "load", 1.0, (), None), ("take", ODD, 1, (), None), (ODD, "load", 1, (), None),
            ("leave", "load", 1), ("take", "load", 1, (), False),
        ]
        for thing in wrong:
            self.assertIs(thing in state, False)
            self.raises(NoMove, thing, lambda: state >> thing)
        self.assertIs(("take", "load", 1, (), None) in state, True)
        self.assertIs(("enter", "save", 0) in state, True)

    def test_true_in_the_place_of_1(self):
        program = parse("pools a b; job one limit 1 { take a 1 { both { take b 1 { } } and { take b 1 { } } } }")
        state = State(program, Sizes({"a": 1, "b": 2}), {("one", (1, 2, 3)): 1})
        self.assertIn(("take", "one", (1, 2, 3), (1,), (1, 2, None)), state)
        for move in (("take", "one", (True, 2, 3), (1,), (1, 2, None)), ("take", "one", (1, 2, 3), (True,), (1, 2, None)),
                     ("take", "one", (1, 2, 3), (1,), (True, 2, None)), ("take", "one", (1, 2, 3), (1.0,), (1, 2, None)),
                     ("take", "one", (1, 2, 3), (False,), (1, None, 3)), ("take", "one", (1, 2, 3), (), (1, 2, None)),
                     ("take", "one", (1, 2, 3), (2,), (1, 2, None)), ("take", "one", (1, 2, 3), (1, 1), (1, 2, None)),
                     ("take", "one", (1, 2, 3), [1], (1, 2, None)), ("take", "one", [1, 2, 3], (1,), (1, 2, None))):
            self.assertNotIn(move, state)

    def test_slowly(self):
        rng = random.Random(1)
        for seed in range(150):
            program = random_program(seed)
            sizes = Sizes({pool: rng.randint(1, 5) for pool in program.pools})
            state = empty_state(program, sizes)
            for _ in range(12):
                moves = list(state.moves())
                self.assertEqual(moves, all_moves_slowly(state))
                self.assertTrue(all(move in state for move in moves))
                if not moves:
                    break
                before = state.jobs_by_position()
                move = rng.choice(moves)
                later = state >> move
                self.assertEqual(state.jobs_by_position(), before)
                self.assertEqual(later, State(program, sizes, later.jobs_by_position()))
                self.assertEqual(later.held + later.free, sizes)
                self.assertEqual(later.held, self.sum_of(later))
                state = later

    def sum_of(self, state):
        total = Sizes({})
        for (name, position), many in state.jobs_by_position().items():
            total = total + state.program.code(name).held_by(position) * many
        return total


class TestOthers(Case):
    def test_without(self):
        program = PROGRAM.with_limit("load", 2)
        state = State(program, Sizes({"a": 1}), {("load", 1): 1, ("load", 0): 1})
        self.assertEqual(state.without("load", 1), State(program, Sizes({"a": 1}), {("load", 0): 1}))
        self.assertEqual(state.without(name="load", position=0).jobs_by_position(), {("load", 1): 1})
        two = State(program, ONE, {("load", 0): 2})
        self.assertEqual(two.without("load", 0).jobs_by_position(), {("load", 0): 1})
        self.assertEqual(two.without("load", 0).without("load", 0).jobs_by_position(), {})
        self.assertEqual(state.job_count, 2)

    def test_without_what_is_not_there(self):
        state = State(PROGRAM, ONE, {("load", 0): 1})
        for thing in ANYTHING:
            if type(thing) is not int or thing != 0:
                self.check_without(state, "load", thing)
            if not isinstance(thing, str) or thing != "load":
                self.check_without(state, thing, 0)
        for name, position in (("load", 1), ("save", 0), ("load", False), ("load", 7)):
            self.check_without(state, name, position)

    def check_without(self, state, name, position):
        with self.assertRaises(InvalidState) as caught:
            state.without(name, position)
        self.assertIs(type(caught.exception.value), tuple)
        self.assertEqual(len(caught.exception.value), 2)
        self.assertIs(caught.exception.value[0], name)
        self.assertIs(caught.exception.value[1], position)

    def test_at_sizes(self):
        state = State(PROGRAM, Sizes({"a": 1, "b": 1}), {("load", 1): 1})
        self.assertEqual(state.at_sizes(Sizes({"a": 3})), State(PROGRAM, Sizes({"a": 3}), {("load", 1): 1}))
        self.assertEqual(state.at_sizes(sizes=Sizes({"a": 1})).free, Sizes({}))
        self.assertEqual(state.sizes, ONE)
        with self.assertRaises(InvalidState) as caught:
            state.at_sizes(Sizes({"b": 3}))
        self.assertEqual(caught.exception.value, {("load", 1): 1})
        caught.exception.value.clear()
        self.assertEqual(state.jobs_by_position(), {("load", 1): 1})
        for thing in ANYTHING:
            self.raises(InvalidSizes, thing, state.at_sizes, thing)

    def test_methods_are_its_own(self):
        for name in ("program", "sizes", "held", "free", "jobs_by_position", "count", "job_count", "moves", "without", "at_sizes",
                     "__contains__", "__rshift__", "__eq__"):
            self.assertIn(name, vars(State))
