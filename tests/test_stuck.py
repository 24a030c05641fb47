"""[11] who is stuck, and guarantee (a) of [4]."""

import random
from itertools import combinations, permutations

from leastpools.errors import InvalidState
from leastpools.parsing import parse
from leastpools.runs import Run
from leastpools.sizes import Sizes
from leastpools.states import State, empty_state
from leastpools.stuck import freeing_order, is_stuck, lacking, lets_order, lets_stuck, stuck_set
from tests.helpers import ANYTHING, CROSSED, ODD, Case
from tests.model import Model, random_program, strands_at

PROGRAM = parse(CROSSED)
ONE = Sizes({"a": 1, "b": 1})
MOVES = [("enter", "load", 0), ("enter", "save", 0), ("take", "load", 0, (), 1), ("take", "save", 0, (), 1)]
STUCK = Run(PROGRAM, ONE, MOVES).state
BOTH = [("load", 1, ()), ("save", 1, ())]
# A job that holds what a strand inside it wants, beside one that can go on.
INSIDE = parse(
    "pools a b c; job one limit 2 { take a 1 { both { take a 1 { } } and { take b 1 { } } } } job two limit 1 { take c 1 { take b 1 { } } }"
)


class Slow:
    """The rows of a state and what is told of them, from the model of the code and the words of [11]."""

    def __init__(self, state):
        self.state = state
        self.want = {}
        self.gives = {}
        for (name, position), many in state.jobs_by_position().items():
            model = Model(state.program, name)
            for strand, want, held in model.strands(model.ways()[position]):
                self.want[(name, position, strand)] = want
                self.gives[(name, position, strand)] = held * many

    def rest(self, rows):
        rest = self.state.sizes
        for row in rows:
            rest = rest - self.gives[row]
        return rest

    def is_stuck_together(self, rows):
        """What lets_stuck asks for, of a set of rows."""
        for row in rows:
            if self.want[row] is None:
                name, position, strand = row
                if not any((name, position, strand + (side,)) in rows for side in (0, 1)):
                    return False
            elif self.want[row].fits(self.rest(rows)):
                return False
        return len(rows) > 0

    def is_order(self, rows):
        """What lets_order asks for, of all rows."""
        for at, row in enumerate(rows):
            name, position, strand = row
            if self.want[row] is None:
                inside = [(name, position, strand + (side,)) for side in (0, 1)]
                if any(part in self.want and part not in rows[:at] for part in inside):
                    return False
            elif not self.want[row].fits(self.rest(rows[at:])):
                return False
        return True


class TestExamples(Case):
    def test_document(self):
        self.assertEqual(stuck_set(STUCK), BOTH)
        self.assertEqual(freeing_order(STUCK), [])
        self.assertIs(is_stuck(STUCK), True)
        self.assertEqual({row: str(lack) for row, lack in lacking(STUCK).items()}, {BOTH[0]: "b 1", BOTH[1]: "a 1"})

    def test_not_stuck(self):
        for many in range(4):
            state = Run(PROGRAM, ONE, MOVES[:many]).state
            self.assertEqual((stuck_set(state), is_stuck(state), lacking(state)), ([], False, {}))
        state = Run(PROGRAM, ONE, MOVES[:3]).state
        self.assertEqual(sorted(freeing_order(state)), [("load", 1, ()), ("save", 0, ())])
        self.assertEqual(freeing_order(empty_state(PROGRAM, ONE)), [])

    def test_one_waits_for_another(self):
        state = State(PROGRAM.with_limit("load", 2), ONE, {("load", 0): 1, ("load", 1): 1})
        self.assertEqual(freeing_order(state), [("load", 1, ()), ("load", 0, ())])

    def test_a_job_that_holds_what_a_strand_inside_it_wants(self):
        position = (1, 2, 3)
        state = State(INSIDE, Sizes({"a": 1, "b": 1, "c": 1}), {("one", position): 1, ("two", 1): 1})
        self.assertEqual(stuck_set(state), [("one", position, ()), ("one", position, (0,))])
        self.assertEqual(sorted(freeing_order(state)), [("one", position, (1,)), ("two", 1, ())])
        self.assertEqual(lacking(state), {("one", position, (0,)): Sizes({"a": 1})})
        self.assertTrue(lets_stuck(state, [("one", position, (0,)), ("one", position, ())]))
        # The one inside alone holds nothing, so all others could give it what it wants.
        self.assertFalse(lets_stuck(state, [("one", position, (0,))]))
        state = state.at_sizes(Sizes({"a": 2, "b": 1}) | Sizes({"c": 1}))
        self.assertEqual(stuck_set(state), [])
        order = freeing_order(state)
        self.assertEqual(len(order), 4)
        self.assertGreater(order.index(("one", position, ())), order.index(("one", position, (0,))))
        self.assertGreater(order.index(("one", position, ())), order.index(("one", position, (1,))))

    def test_all_jobs_at_a_position(self):
        position = (1, 2, 3)
        for amount, stuck in ((2, True), (3, False)):
            state = State(INSIDE, Sizes({"a": amount, "b": 1}), {("one", position): 2})
            self.assertIs(is_stuck(state), stuck)

    def test_what_is_wanted_that_is_never_there(self):
        state = State(PROGRAM, Sizes({"b": 1}), {("load", 0): 1, ("save", 0): 1})
        self.assertEqual(stuck_set(state), [("load", 0, ())])
        self.assertEqual(freeing_order(state), [("save", 0, ())])
        self.assertEqual({row: str(lack) for row, lack in lacking(state).items()}, {("load", 0, ()): "a 1"})

    def test_strands_inside_strands(self):
        program = parse(
            "pools a b c; job one limit 1 { both { take a 1 { both { take b 1 { } } and { take c 1 { } } } } and { take b 1 { take a 1 { } } } }"
        )
        position = (0, (2, 3, 4), 6)
        state = State(program, Sizes({"a": 1, "b": 1, "c": 1}), {("one", position): 1})
        self.assertEqual([row[2] for row in stuck_set(state)], [(), (0,), (0, 0), (1,)])
        self.assertEqual(freeing_order(state), [("one", position, (0, 1))])
        self.assertEqual({row[2]: str(lack) for row, lack in lacking(state).items()}, {(0, 0): "b 1", (1,): "a 1"})
        state = state.at_sizes(Sizes({"a": 1, "b": 2, "c": 1}))
        order = [row[2] for row in freeing_order(state)]
        self.assertEqual(sorted(order), [(), (0,), (0, 0), (0, 1), (1,)])
        self.assertLess(order.index((0,)), order.index((1,)))

    def test_no_state(self):
        for thing in ANYTHING:
            for call in (stuck_set, freeing_order, is_stuck, lacking):
                self.raises(InvalidState, thing, call, thing)
            for call in (lets_stuck, lets_order):
                self.raises(InvalidState, thing, call, thing, [])
                self.raises(InvalidState, thing, call, thing, None)

    def test_names_of_arguments(self):
        self.assertEqual(stuck_set(state=STUCK), BOTH)
        self.assertEqual((freeing_order(state=STUCK), is_stuck(state=STUCK), len(lacking(state=STUCK))), ([], True, 2))
        self.assertEqual((lets_stuck(state=STUCK, thing=BOTH), lets_order(state=STUCK, thing=BOTH)), (True, False))

    def test_results_are_new(self):
        stuck_set(STUCK).clear()
        lacking(STUCK).clear()
        self.assertEqual((stuck_set(STUCK), len(lacking(STUCK))), (BOTH, 2))


class TestAnyAuthor(Case):
    def test_stuck(self):
        self.assertIs(lets_stuck(STUCK, BOTH), True)
        self.assertIs(lets_stuck(STUCK, BOTH[::-1]), True)
        wrong = [BOTH[:1], BOTH[1:], BOTH + BOTH[:1], tuple(BOTH), [list(row) for row in BOTH], [], BOTH + [("load", 0, ())],
                 [("load", True, ()), BOTH[1]], [("load", 1.0, ()), BOTH[1]], [("load", 1), BOTH[1]], [("load", 1, (), 0), BOTH[1]],
                 [("load", 1, []), BOTH[1]], [("load", 1, (0,)), BOTH[1]], [("load", 1, None), BOTH[1]], {row: 1 for row in BOTH},
                 set(BOTH), [ODD], [BOTH[0], ODD], [BOTH[0], None], [(ODD, ODD, ODD)], [("load", ODD, ()), BOTH[1]],
                 [BOTH[0], ("mend", 1, ())], "load", [("load", 1, ()), ("load", True, ())]]
        for thing in [*wrong, *ANYTHING]:
            self.assertIs(lets_stuck(STUCK, thing), False)

    def test_order(self):
        state = Run(PROGRAM.with_limit("load", 2), ONE, [("enter", "load", 0)] * 2 + [MOVES[2]]).state
        rows = [("load", 1, ()), ("load", 0, ())]
        self.assertIs(lets_order(state, rows), True)
        wrong = [rows[::-1], rows[:1], rows[1:], rows + rows[:1], rows[:1] * 2, tuple(rows), [list(row) for row in rows], [],
                 [("load", True, ()), rows[1]], [rows[0], ("load", False, ())], [("load", 1.0, ()), rows[1]], rows + [ODD],
                 [rows[0], ODD], [rows[0], ("load", 0, [])], [rows[0], ("load", 0, (0,))], [rows[0], ("load", 0)],
                 {row: 1 for row in rows}, [*rows, ("save", 0, ())], [rows[0], ("load", None, ())]]
        for thing in [*wrong, *ANYTHING]:
            self.assertIs(lets_order(state, thing), False)
        self.assertIs(lets_order(empty_state(PROGRAM, ONE), []), True)
        self.assertIs(lets_stuck(empty_state(PROGRAM, ONE), []), False)
        for thing in ANYTHING:
            if not isinstance(thing, list) or thing:
                self.assertIs(lets_order(empty_state(PROGRAM, ONE), thing), False)

    def test_both_behind_those_inside(self):
        position = (1, 2, 3)
        state = State(INSIDE, Sizes({"a": 9, "b": 9}), {("one", position): 1})
        rows = [("one", position, strand) for strand in ((0,), (1,), ())]
        self.assertTrue(lets_order(state, rows))
        self.assertTrue(lets_order(state, [rows[1], rows[0], rows[2]]))
        for order in ((0, 2, 1), (2, 0, 1), (1, 2, 0)):
            self.assertFalse(lets_order(state, [rows[at] for at in order]))
        for bent in ((True, 2, 3), [1, 2, 3], (1, 2), (1, 2, 3, 4)):
            self.assertFalse(lets_order(state, [("one", bent, (0,)), *rows[1:]]))
        self.assertFalse(lets_order(state, [("one", position, (False,)), *rows[1:]]))
        self.assertFalse(lets_order(state, [rows[0], ("one", position, (True,)), rows[2]]))

    def test_true_in_the_place_of_1(self):
        program = parse("pools a b; job one limit 1 { take a 1 { both { take a 1 { } } and { take a 1 { } } } }")
        state = State(program, Sizes({"a": 1}), {("one", (1, 2, 3)): 1})
        rows = [("one", (1, 2, 3), ()), ("one", (1, 2, 3), (0,)), ("one", (1, 2, 3), (1,))]
        self.assertTrue(lets_stuck(state, rows))
        self.assertTrue(lets_stuck(state, rows[:2]))
        self.assertTrue(lets_stuck(state, [rows[0], rows[2]]))
        self.assertFalse(lets_stuck(state, rows[1:]))
        self.assertFalse(lets_stuck(state, rows[:1]))
        self.assertFalse(lets_stuck(state, [rows[0], ("one", (1, 2, 3), (True,))]))
        self.assertFalse(lets_stuck(state, [rows[0], ("one", (True, 2, 3), (1,))]))


class TestByChance(Case):
    def states(self, many):
        """States behind walks by chance."""
        rng = random.Random(11)
        for seed in range(many):
            program = random_program(seed)
            state = empty_state(program, Sizes({pool: rng.randint(1, 4) for pool in program.pools}))
            for _ in range(rng.randint(1, 14)):
                moves = list(state.moves())
                if not moves:
                    break
                state = state >> rng.choice(moves)
            yield state

    def test_papers_are_accepted(self):
        stuck = 0
        for state in self.states(400):
            rows = stuck_set(state)
            order = freeing_order(state)
            everything = [
                (name, position, strand) for name, position in state.jobs_by_position() for strand in strands_at(position)
            ]
            self.assertEqual([row for row in everything if row in rows], rows)
            self.assertEqual(sorted(map(str, rows + order)), sorted(map(str, everything)))
            self.assertIs(is_stuck(state), len(rows) > 0)
            self.assertIs(lets_stuck(state, rows), len(rows) > 0)
            self.assertIs(lets_order(state, order), len(rows) == 0)
            stuck += len(rows) > 0
            if not rows:
                self.assertTrue(state.job_count == 0 or any(move[0] == "take" for move in state.moves()))
        self.assertGreater(stuck, 40)

    def test_greatest_set(self):
        checked = 0
        for state in self.states(500):
            rows = Slow(state)
            if len(rows.want) > 8:
                continue
            everything = list(rows.want)
            greatest = []
            for many in range(1, len(everything) + 1):
                for some in combinations(everything, many):
                    told = rows.is_stuck_together(some)
                    self.assertIs(lets_stuck(state, list(some)), told)
                    if told:
                        greatest.extend(row for row in some if row not in greatest)
            self.assertEqual(sorted(greatest, key=str), sorted(stuck_set(state), key=str))
            checked += len(greatest) > 0
        self.assertGreater(checked, 20)

    def test_all_orders(self):
        answers = []
        for state in self.states(300):
            rows = Slow(state)
            if len(rows.want) <= 5:
                for some in permutations(rows.want):
                    answers.append(rows.is_order(some))
                    self.assertIs(lets_order(state, list(some)), answers[-1])
        self.assertGreater(answers.count(True), 200)
        self.assertGreater(answers.count(False), 300)

    def test_lacking(self):
        for state in self.states(300):
            rows = Slow(state)
            stuck = stuck_set(state)
            told = lacking(state)
            self.assertEqual(list(told), [row for row in stuck if rows.want[row] is not None])
            for row, lack in told.items():
                self.assertEqual(lack, rows.want[row] - (rows.want[row] & rows.rest(stuck)))
                self.assertGreater(lack.total, 0)

    def test_never_goes_on(self):
        """A stuck strand stays where it is, whatever is done."""
        rng = random.Random(5)
        for state in self.states(200):
            for name, position, _ in stuck_set(state):
                later = state
                for _ in range(12):
                    moves = list(later.moves())
                    if not moves:
                        break
                    later = later >> rng.choice(moves)
                self.assertTrue(is_stuck(later))

    def test_stays_with_less(self):
        for state in self.states(200):
            for pool in state.program.pools:
                if state.free[pool] > 0:
                    less = state.at_sizes(state.sizes - Sizes({pool: 1}))
                    self.assertTrue(all(row in stuck_set(less) for row in stuck_set(state)))
