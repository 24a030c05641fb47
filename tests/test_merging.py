"""Histories in numbers, against slower tellings of the same."""

import random
import unittest

from leastpools.errors import TooMany
from leastpools.parsing import parse
from leastpools.runs import Run
from leastpools.sizes import Sizes
from leastpools.states import empty_state
from leastpools.watching import merged
from tests.model import random_program
from tests.test_watching import history_of, slow_merged

CHOICES = "either { take a 1 { } } or { take b 1 { } }"
TWO = f"pools a b; job load limit 6 {{ {CHOICES} }} job save limit 6 {{ {CHOICES} }}"


def first_found(program, sizes, histories):
    """The order that is found by going on with the last that was met, in the order of the histories."""
    start = tuple(0 for _ in histories)
    states, runs, waiting = {start: empty_state(program, sizes)}, {start: []}, [start]
    while waiting:
        done = waiting.pop()
        for at, (name, position, steps) in enumerate(histories):
            later = done[:at] + (done[at] + 1,) + done[at + 1:]
            if done[at] > len(steps) or later in states:
                continue
            move = ("enter", name, position)
            if done[at]:
                resting = ([position] + [one for _, one in steps])[done[at] - 1]
                move = ("take", name, resting, *steps[done[at] - 1])
            if move in states[done]:
                states[later] = states[done] >> move
                runs[later] = [*runs[done], move]
                waiting.append(later)
    return runs.get(tuple(len(steps) + 1 for _, _, steps in histories))


class TestMerging(unittest.TestCase):
    def test_order_by_chance(self):
        none = 0
        for seed in range(80):
            rng = random.Random(seed)
            program = random_program(seed, most_limit=rng.choice((1, 2, 4)))
            run = Run(program, Sizes({pool: rng.randint(1, 5) for pool in program.pools}))
            for _ in range(12):
                moves = list(run.state.moves())
                if moves:
                    run(rng.choice(moves))
            histories = history_of(program, run.state.sizes, run.done())
            rng.shuffle(histories)
            for sizes in (run.state.sizes, run.state.held, run.state.sizes & Sizes({pool: 2 for pool in program.pools})):
                told = merged(program, sizes, histories)
                self.assertEqual(told, first_found(program, sizes, histories))
                none += told is None
        self.assertGreater(none, 10)

    def test_who_leaves_makes_room(self):
        program = parse("pools a; job load limit 1 { take a 9 { } } job save limit 2 { take a 1 { } }")
        whole = ("load", 0, [((), None)])
        other = ("save", 0, [((), None)])
        for sizes in (Sizes({"a": 9}), Sizes({"a": 15}), Sizes({"a": 16}), Sizes({"a": 10 ** 40})):
            for histories in ([whole] * 8, [other] * 5, [whole, other, other] * 2, [("load", 0, [])] + [other] * 3):
                told = merged(program, sizes, histories)
                self.assertEqual(told, first_found(program, sizes, histories))
                self.assertEqual(len(told), sum(1 + len(steps) for _, _, steps in histories))
            # Two that stay, where there may be one.
            self.assertIsNone(merged(program, sizes, [("load", 0, [])] * 2))
            self.assertIsNone(merged(program, sizes, [("save", 0, [])] * 3 + [whole]))
        self.assertIsNone(merged(program, Sizes({"a": 8}), [whole]))
        self.assertIsNone(merged(program, Sizes({"b": 9}), [other]))
        self.assertEqual(merged(program, Sizes({"a": 8}), [other]), [("enter", "save", 0), ("take", "save", 0, (), None)])

    def test_many(self):
        program = parse(TWO)
        sizes = Sizes({"a": 9, "b": 9})
        for first, second in ((6, 6), (6, 3), (30, 30)):
            with self.assertRaises(TooMany) as caught:
                merged(program, sizes, [("load", 0, [((), None)])] * first + [("save", 1, [((), None)])] * second)
            self.assertEqual(caught.exception.number, 2000)
        # Each history is at one of 3 places.
        histories = [("load", 0, [((), None)])] * 3 + [("save", 1, [((), None)])] * 3
        self.assertEqual(slow_merged(program, sizes, histories), (True, 729))
        self.assertEqual(merged(program, sizes, histories), first_found(program, sizes, histories))
        self.assertIsNone(merged(program.with_limit("save", 2), sizes, [("load", 0, [])] * 6 + [("save", 0, [])] * 3))


if __name__ == "__main__":
    unittest.main()
