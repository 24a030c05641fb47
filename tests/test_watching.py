"""[22] logs: words, stops, and histories that are merged."""

import random
from itertools import combinations

from leastpools.careful import is_safe
from leastpools.errors import InvalidLog, InvalidSizes, InvalidState, NoMove, TooMany
from leastpools.parsing import parse
from leastpools.runs import Run
from leastpools.sizes import Sizes
from leastpools.states import State, empty_state
from leastpools.stuck import is_stuck
from leastpools.verdicts import reached
from leastpools.watching import Watch, fewest_stops, first_doomed, first_stuck, lets_stops, merged, word_of
from tests.helpers import ANYTHING, CROSSED, ODD, Case, jobs
from tests.model import random_program

PROGRAM = parse(CROSSED)
ONE = Sizes({"a": 1, "b": 1})
MOVES = [("enter", "load", 0), ("enter", "save", 0), ("take", "load", 0, (), 1), ("take", "save", 0, (), 1)]
STUCK = Run(PROGRAM, ONE, MOVES).state
# Behind the choice of the second job, which nobody can forbid, both wait for one another.
CHOICE = jobs("take a 1 { take b 1 { } }", "take b 1 { either { } or { take a 1 { } } take a 1 { } }")
LOAD = ("load", 0, [((), 1), ((), None)])
SAVE = ("save", 0, [((), 1), ((), None)])


def some_runs(most=120):
    """Tuples (program, sizes, moves) by chance."""
    for seed in range(most):
        rng = random.Random(seed)
        program = random_program(seed)
        run = Run(program, Sizes({pool: rng.randint(1, 4) for pool in program.pools}))
        for _ in range(12):
            moves = list(run.state.moves())
            if moves:
                run(rng.choice(moves))
        yield program, run.state.sizes, run.done()


def stops_by_chance(most=80):
    """States by chance with at most 12 jobs, of which many are not safe."""
    for seed in range(most):
        rng = random.Random(seed)
        program = random_program(seed, most_limit=4)
        states = []
        try:
            states = list(reached(program, Sizes({pool: rng.randint(1, 4) for pool in program.pools})))
        except TooMany:
            continue
        for state in rng.sample(states, min(5, len(states))):
            if state.job_count <= 12:
                yield state


def slow_stops(state):
    """The fewest jobs in order, by all choices of them."""
    places = [place for place, many in state.jobs_by_position().items() for _ in range(many)]
    for many in range(len(places) + 1):
        for some in combinations(range(len(places)), many):
            left = state
            for at in some:
                left = left.without(*places[at])
            if is_safe(left):
                return [places[at] for at in some]


class TestWords(Case):
    def test_one_behind_the_other(self):
        program = jobs("take a 1 { take b 1 { take a 1 { } } }", "take b 1 { take c 1 { take a 1 { } } }", pools="a b c")
        sizes = Sizes({"a": 1, "b": 2, "c": 1})
        # The second one stays behind the first one's a, and nobody ever gives a second a back.
        watch = Watch(jobs("take a 1 { take c 1 { take b 1 { } } }", "take b 1 { take c 1 { take a 1 { } } }", pools="a b c"), Sizes({"a": 1, "b": 1, "c": 1}))
        run = [("enter", "one", 0), ("enter", "two", 0), ("take", "one", 0, (), 1), ("take", "two", 0, (), 1), ("take", "one", 1, (), 2)]
        self.assertEqual([watch(move) for move in run], ["safe", "safe", "safe", "doomed", "stuck"])
        self.assertEqual(watch.words(), ["safe", "safe", "safe", "doomed", "stuck"])
        self.assertEqual((first_doomed(watch.state_now.program, watch.state_now.sizes, run), first_stuck(watch.state_now.program, watch.state_now.sizes, run)), (3, 4))
        # A job that wants more than there is of a pool is doomed from its first take on.
        self.assertEqual(word_of(empty_state(program, sizes)), "safe")
        self.assertEqual(word_of(State(program, sizes, {("one", 0): 1})), "doomed")
        self.assertEqual(word_of(State(program, sizes, {("one", 2): 1})), "stuck")

    def test_by_chance(self):
        words = []
        for program, sizes, moves in some_runs():
            watch = Watch(program, sizes)
            run = Run(program, sizes)
            for move in moves:
                word = watch(move)
                state = run(move)
                words.append(word)
                self.assertEqual(word, word_of(state))
                self.assertEqual(word == "stuck", is_stuck(state))
                self.assertEqual(word == "safe", is_safe(state))
                self.assertEqual(watch.state_now, state)
            told = watch.words()
            doomed = [index for index, word in enumerate(told) if word != "safe"]
            self.assertEqual(first_doomed(program, sizes, moves), doomed[0] if doomed else None)
            self.assertEqual(first_stuck(program, sizes, moves), told.index("stuck") if "stuck" in told else None)
        self.assertGreater(min(words.count(word) for word in ("safe", "doomed", "stuck")), 20)

    def test_no_state(self):
        for thing in [*ANYTHING, PROGRAM]:
            self.raises(InvalidState, thing, word_of, thing)
        self.assertEqual(word_of(state=STUCK), "stuck")


class TestWatch(Case):
    def test_document(self):
        watch = Watch(PROGRAM, ONE)
        self.assertEqual([watch(move) for move in MOVES], ["safe", "safe", "safe", "stuck"])
        self.assertEqual(fewest_stops(watch.state_now), [("load", 1)])

    def test_new(self):
        watch = Watch(program=PROGRAM, sizes=ONE)
        self.assertEqual((watch.words(), watch.state_now), ([], empty_state(PROGRAM, ONE)))
        watch(move=MOVES[0])
        watch.words().clear()
        self.assertEqual(watch.words(), ["safe"])

    def test_no_move(self):
        watch = Watch(PROGRAM, ONE)
        watch(MOVES[0])
        for thing in [*ANYTHING, MOVES[0], MOVES[3], list(MOVES[1])]:
            self.raises(NoMove, thing, watch, thing)
            self.assertEqual((watch.words(), watch.state_now), (["safe"], Run(PROGRAM, ONE, MOVES[:1]).state))

    def test_raises(self):
        for thing in ANYTHING:
            self.raises(InvalidState, thing, Watch, thing, None)
            self.raises(InvalidSizes, thing, Watch, PROGRAM, thing)


class TestFirst(Case):
    def test_none(self):
        for call in (first_doomed, first_stuck):
            self.assertIsNone(call(PROGRAM, ONE, []))
            self.assertIsNone(call(PROGRAM, ONE, MOVES[:3]))
            self.assertIsNone(call(PROGRAM, ONE("a"), MOVES))
            self.assertEqual(call(program=PROGRAM, sizes=ONE, moves=MOVES), 3)
        self.assertEqual((first_doomed(CHOICE, ONE, [("enter", "one", 0)]), first_stuck(CHOICE, ONE, [("enter", "one", 0)])), (None, None))

    def test_doomed_is_no_index_of_stuck(self):
        program = jobs("take a 1 { take a 1 { } }")
        moves = [("enter", "one", 0), ("take", "one", 0, (), 1)]
        self.assertEqual((first_doomed(program, Sizes({"a": 1}), moves), first_stuck(program, Sizes({"a": 1}), moves)), (0, 1))
        self.assertEqual((first_doomed(program, Sizes({}), moves[:1]), first_stuck(program, Sizes({}), moves[:1])), (0, 0))

    def test_raises(self):
        for call in (first_doomed, first_stuck):
            for thing in [*ANYTHING, tuple(MOVES)]:
                if not isinstance(thing, list):
                    self.raises(InvalidLog, thing, call, PROGRAM, ONE, thing)
                    # The log comes first.
                    self.raises(InvalidLog, thing, call, None, None, thing)
                self.raises(InvalidState, thing, call, thing, None, [ODD])
                self.raises(InvalidSizes, thing, call, PROGRAM, thing, [ODD])
                self.raises(NoMove, thing, call, PROGRAM, ONE, [thing])
                # All moves are to be possible, also behind a stuck state.
                self.raises(NoMove, thing, call, PROGRAM, ONE, [*MOVES, thing, ODD])
            self.raises(NoMove, MOVES[2], call, PROGRAM, ONE, MOVES[2:])


class TestStops(Case):
    def test_fewest(self):
        self.assertEqual(fewest_stops(STUCK), [("load", 1)])
        self.assertEqual(fewest_stops(empty_state(PROGRAM, ONE)), [])
        self.assertEqual(fewest_stops(State(PROGRAM, ONE, {("load", 1): 1, ("save", 0): 1})), [])
        # One job alone that can never have what it wants.
        self.assertEqual(fewest_stops(State(PROGRAM, Sizes({"a": 9}), {("save", 0): 1, ("load", 0): 1})), [("load", 0), ("save", 0)])

    def test_the_first_of_several(self):
        program = jobs("take a 1 { take a 1 { } }", "take b 1 { take b 1 { } }", limit=6)
        # Two of three at a place that wait for one another, and one of two at another one.
        state = State(program, Sizes({"a": 3, "b": 2}), {("two", 1): 2, ("one", 1): 3, ("two", 0): 1, ("one", 0): 2})
        self.assertEqual(fewest_stops(state), [("one", 1), ("two", 1)])
        program = jobs("take a 1 { take b 1 { } }", "take b 1 { take a 1 { } }", limit=3)
        state = State(program, Sizes({"a": 2, "b": 3}), {("one", 1): 2, ("two", 1): 3})
        self.assertEqual(fewest_stops(state), [("one", 1)])
        state = State(program, Sizes({"a": 3, "b": 1}), {("one", 1): 3, ("two", 1): 1})
        self.assertEqual(fewest_stops(state), [("one", 1)])
        program = jobs("take a 2 { take a 2 { } }", limit=6)
        self.assertEqual(fewest_stops(State(program, Sizes({"a": 13}), {("one", 1): 6})), [("one", 1)])
        self.assertEqual(fewest_stops(State(program, Sizes({"a": 3}), {("one", 1): 1, ("one", 0): 2})), [("one", 0), ("one", 0), ("one", 1)])
        for many in range(1, 7):
            self.assertEqual(fewest_stops(State(program, Sizes({"a": 3}), {("one", 0): many})), [("one", 0)] * many)

    def test_12(self):
        program = jobs("take a 1 { }", "take b 1 { take b 1 { } }", "take b 1 { }", limit=6)
        there = {("one", 0): 6, ("two", 0): 1, ("two", 1): 5}
        self.assertEqual(fewest_stops(State(program, Sizes({"a": 1, "b": 5}), there)), [("two", 1)])
        self.assertEqual(fewest_stops(State(program, Sizes({"b": 5}), there)), [("one", 0)] * 6 + [("two", 1)])
        self.assertEqual(fewest_stops(state=State(program, Sizes({"b": 5}), {("two", 1): 5})), [("two", 1)])
        there[("three", 0)] = 1
        for sizes in (Sizes({"a": 1, "b": 5}), Sizes({"a": 9, "b": 9})):
            self.raises(TooMany, 12, fewest_stops, State(program, sizes, there))
        self.assertIs(lets_stops(State(program, Sizes({"a": 1, "b": 5}), there), [("two", 1)]), True)

    def test_by_chance(self):
        lengths = []
        for state in stops_by_chance():
            told = fewest_stops(state)
            lengths.append(len(told))
            self.assertEqual(told, slow_stops(state))
            self.assertIs(lets_stops(state, told), True)
            self.assertIs(lets_stops(state, told[::-1]), True)
            self.assertIs(lets_stops(state, told[1:]), not told)
        self.assertGreater(min(lengths.count(many) for many in (0, 1, 2)), 10)

    def test_lets_stops(self):
        for thing in ([("load", 1)], [("save", 1)], [("load", 1), ("save", 1)], [("save", 1), ("load", 1)]):
            self.assertIs(lets_stops(STUCK, thing), True)
        # A job that is there once cannot be stopped twice.
        for thing in ([], [("load", 1)] * 2, [("load", 0)], [("load", True)], [("load", 1), ("load", 0)], [["load", 1]], (("load", 1),), [("load", 1, 1)], [("load",)], [("none", 1)],
                      [("load", 1), ODD], [(ODD, 1)], [("load", ODD)], {("load", 1): 1}):
            self.assertIs(lets_stops(STUCK, thing), False)
        state = State(PROGRAM.with_limit("load", 2), ONE("a"), {("load", 1): 2, ("save", 1): 1})
        self.assertIs(lets_stops(state, [("load", 1)] * 2), True)
        self.assertIs(lets_stops(state, [("load", 1)] * 3), False)
        self.assertIs(lets_stops(state=state, thing=[("load", 1)]), True)
        self.assertIs(lets_stops(empty_state(PROGRAM, Sizes({})), []), True)
        self.assertIs(lets_stops(empty_state(PROGRAM, Sizes({})), ()), False)

    def test_other_values(self):
        for thing in ANYTHING:
            self.raises(InvalidState, thing, fewest_stops, thing)
            self.raises(InvalidState, thing, lets_stops, thing, ODD)
            self.assertIs(lets_stops(STUCK, thing), False)
            self.assertIs(lets_stops(STUCK, [("load", 1), thing]), False)

    def test_results_are_new(self):
        fewest_stops(STUCK).clear()
        self.assertEqual(len(fewest_stops(STUCK)), 1)


def history_of(program, sizes, moves):
    """The moves told as histories; which of alike jobs did a move is left open, here it is the last one."""
    found = {}
    histories = []
    for move in moves:
        if move[0] == "enter":
            history = (move[1], move[2], [])
            histories.append(history)
        else:
            history = found[move[1:3]].pop()
            history[2].append(move[3:])
        if move[-1] is not None:
            found.setdefault((move[1], move[-1]), []).append(history)
    return histories


def slow_merged(program, sizes, histories):
    """Whether there is an order, and how many tuples can be reached, by states alone."""
    start = tuple(0 for _ in histories)
    found = {start: empty_state(program, sizes)}
    waiting = [start]
    for done in waiting:
        for at, (name, position, steps) in enumerate(histories):
            later = done[:at] + (done[at] + 1,) + done[at + 1:]
            if done[at] > len(steps) or later in found:
                continue
            move = ("enter", name, position)
            if done[at]:
                resting = ([position] + [one for _, one in steps])[done[at] - 1]
                move = ("take", name, resting, *steps[done[at] - 1])
            if move in found[done]:
                found[later] = found[done] >> move
                waiting.append(later)
    return tuple(len(steps) + 1 for _, _, steps in histories) in found, len(found)


class TestMerged(Case):
    def check(self, program, sizes, histories, told):
        """Each history's moves in its own order, all possible one after another."""
        Run(program, sizes, told)
        self.assertEqual(len(told), sum(len(steps) + 1 for _, _, steps in histories))
        left = [[("enter", name, position)] + self.takes(name, position, steps) for name, position, steps in histories]

        def fits(at, rows):
            if at == len(told):
                return True
            return any(row and row[0] == told[at] and fits(at + 1, rows[:k] + [row[1:]] + rows[k + 1:]) for k, row in enumerate(rows) if row not in rows[:k])
        self.assertTrue(fits(0, left))

    def takes(self, name, position, steps):
        moves = []
        for strand, later in steps:
            moves.append(("take", name, position, strand, later))
            position = later
        return moves

    def test_crossed(self):
        told = merged(PROGRAM, ONE, [LOAD, SAVE])
        self.check(PROGRAM, ONE, [LOAD, SAVE], told)
        self.assertEqual(merged(program=PROGRAM, sizes=ONE, histories=[]), [])
        self.assertEqual(merged(PROGRAM, ONE, [("load", 0, [])]), [("enter", "load", 0)])
        self.assertEqual(merged(PROGRAM, ONE, [LOAD]), [("enter", "load", 0), ("take", "load", 0, (), 1), ("take", "load", 1, (), None)])
        self.assertEqual(len(merged(PROGRAM, ONE, [LOAD, LOAD, SAVE])), 9)

    def test_cut(self):
        # One that stays with what the other one wants.
        cut = ("load", 0, [((), 1)])
        self.check(PROGRAM, ONE, [cut, SAVE], merged(PROGRAM, ONE, [cut, SAVE]))
        self.assertIsNone(merged(PROGRAM, ONE, [cut, LOAD, ("load", 0, [])]))
        self.assertEqual(len(merged(PROGRAM, ONE, [cut, LOAD])), 5)
        self.assertIsNone(merged(PROGRAM, ONE, [cut, cut]))
        self.assertIsNone(merged(PROGRAM.with_limit("load", 2), ONE, [cut, cut]))
        self.assertIsNone(merged(PROGRAM, Sizes({"a": 1}), [cut, SAVE]))
        self.assertEqual(len(merged(PROGRAM, ONE, [cut, ("save", 0, [((), 1)])])), 4)

    def test_bent(self):
        bent = [("load", 1, []), ("load", None, []), ("load", "x", []), ("load", (), []), ("load", (0, 0, 0), []), ("load", 0, [((), 0)]), ("load", 0, [((), None)]), ("load", 0, [((0,), 1)]),
                ("load", 0, [(0, 1)]), ("load", 0, [("x", 1)]), ("load", 0, [((), "x")]), ("load", 0, [((), ((),))]), ("load", 0, [((), 1), ((), None), ((), None)]),
                ("load", 0, [((), 1), ((), 1)]), ("load", 0, [((), 1), ((), None), ((), 1)]), ("load", 10 ** 30, [])]
        for history in bent:
            self.assertIsNone(merged(PROGRAM, Sizes({"a": 9, "b": 9}), [history]))
            self.assertIsNone(merged(PROGRAM, Sizes({"a": 9, "b": 9}), [SAVE, history]))
        self.assertIsNone(merged(PROGRAM.with_limit("load", 0), ONE, [LOAD]))
        # Who may be over at once never rested.
        program = jobs("either { } or { take a 1 { } }")
        self.assertIsNone(merged(program, ONE, [("one", None, [])]))
        self.assertEqual(len(merged(program, ONE, [("one", 0, [((), None)])])), 2)

    def test_no_histories(self):
        others = [("none", 0, []), ("load", 0), ("load", 0, [], 1), ["load", 0, []], ("load", 0, ()), ("load", 0, [((), 1, 1)]), ("load", 0, [[(), 1]]), ("load", 0, [((),)]),
                  ("load", True, []), ("load", -1, []), ("load", 1.0, []), ("load", [], []), ("load", b"a", []), ("load", (0, True), []), ("load", ((0, (1, -1)),), []),
                  ("load", 0, [([], 1)]), ("load", 0, [((), False)]), ("load", 0, [((0, [1]), 1)]), ("load", 0, [((), -1)]), ("load", ODD, []), ("load", 0, [(ODD, 1)]), ("load", 0, ODD),
                  (ODD, 0, []), ("load", 0, [ODD]), ("load", 0, [((ODD,), 1)]), (("load",), 0, []), (None, 0, [])]
        for thing in others:
            some = [SAVE, thing]
            self.raises(InvalidLog, some, merged, PROGRAM, ONE, some)
        self.raises(InvalidLog, LOAD, merged, PROGRAM, ONE, LOAD)
        for thing in [*ANYTHING, (LOAD,), {LOAD[0]: LOAD}]:
            if not (isinstance(thing, list) and not thing):
                self.raises(InvalidLog, thing, merged, PROGRAM, ONE, thing)
            some = [LOAD, thing]
            self.raises(InvalidLog, some, merged, PROGRAM, ONE, some)
            self.raises(InvalidState, thing, merged, thing, None, ODD)
            self.raises(InvalidSizes, thing, merged, PROGRAM, thing, ODD)

    def test_by_chance(self):
        nothing = several = 0
        for program, sizes, moves in some_runs():
            rng = random.Random(5)
            histories = history_of(program, sizes, moves)
            rng.shuffle(histories)
            # Somewhat smaller sizes, so that not all orders are possible.
            for one in (sizes, Run(program, sizes, moves).state.held, sizes & Sizes({pool: 2 for pool in program.pools})):
                can, many = slow_merged(program, one, histories)
                told = merged(program, one, histories)
                self.assertEqual(told is not None, can)
                nothing += not can
                several += can and len(histories) > 1
                if can:
                    self.check(program, one, histories, told)
            self.assertIsNotNone(merged(program, sizes, histories))
            if histories:
                at = rng.randrange(len(histories))
                name, position, steps = histories[at]
                cut = histories[:at] + [(name, position, steps[:-1])] + histories[at + 1:]
                self.assertEqual(merged(program, sizes, cut) is not None, slow_merged(program, sizes, cut)[0])
        self.assertGreater(min(nothing, several), 50)

    def test_2000(self):
        # So many tuples of how many moves are done: 2 * 4 * 10 * 25, in any order.
        program = parse("pools a; job one limit 6 { " + "take a 1 { } " * 24 + "}")
        steps = [((), at) for at in range(1, 24)] + [((), None)]
        sizes = Sizes({"a": 9})
        histories = [("one", 0, steps[:many]) for many in (0, 2, 8, 23)]
        self.assertEqual(slow_merged(program, sizes, histories), (True, 2000))
        self.assertEqual(len(merged(program, sizes, histories)), 1 + 3 + 9 + 24)
        histories = [("one", 0, steps[:many]) for many in (1, 2, 8, 23)]
        self.raises(TooMany, 2000, merged, program, sizes, histories)
        # Also if there is no order: one that is bent stands behind them.
        self.raises(TooMany, 2000, merged, program, sizes, histories + [("one", "x", [])])
        self.assertIsNone(merged(program, sizes, [("one", "x", [])] + histories[1:]))
        self.assertIsNone(merged(program, Sizes({}), histories))

    def test_nothing_is_changed(self):
        steps = [((), 1), ((), None)]
        histories = [("load", 0, steps)]
        merged(PROGRAM, ONE, histories).clear()
        self.assertEqual((histories, steps), ([("load", 0, [((), 1), ((), None)])], [((), 1), ((), None)]))
        self.assertEqual(len(merged(PROGRAM, ONE, histories)), 3)
