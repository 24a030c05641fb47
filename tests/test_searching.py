"""Searches through many states, in numbers, against the same searches through states themselves."""

import random
import unittest

from leastpools.digits import Digits, leads_in
from leastpools.errors import TooMany
from leastpools.lines import Line, moves_in_line, stuck_in_line, verdict_in_line
from leastpools.linesearch import LineSearch
from leastpools.nets import Net
from leastpools.packing import Packing
from leastpools.parsing import parse
from leastpools.searching import Search
from leastpools.sizes import Sizes
from leastpools.states import State, empty_state, known_state
from leastpools.vectors import added, is_within, vector_of
from leastpools.verdicts import reached
from tests.helpers import CROSSED, NESTED
from tests.model import random_program

THREE = "both { take a 1 { } } and { both { take b 1 { } } and { both { take a 1 { } } and { take b 2 { give b 1; } } } }"


def some_programs(most=250):
    """Programs and sizes with at most so many states each."""
    for seed in range(120):
        rng = random.Random(seed)
        program = random_program(seed, most_limit=rng.choice((1, 2, 6)))
        sizes = Sizes({pool: rng.choice((0, 1, 2, 3, 5, 10 ** 30)) for pool in program.pools})
        try:
            search = Search(Net(program), vector_of(program.pools, sizes))
        except TooMany:
            continue
        if search.how_many() <= most:
            yield program, sizes, search
    for text in (CROSSED, NESTED, f"pools a b; job load limit 2 {{ {THREE} }}"):
        program = parse(text)
        yield program, Sizes({"a": 2, "b": 2}), Search(Net(program), (2, 2))


class TestPacking(unittest.TestCase):
    def test_numbers(self):
        for start in ((0,), (3, 0), (9, 10, 11), (10 ** 30, 1), (0, 0, 0, 0)):
            packing = Packing(start)
            self.assertEqual(packing.unpacked(packing.start, len(start)), start)
            self.assertEqual(packing.start & packing.guards, 0)
            self.assertEqual(packing.unpacked(packing.start, 1), start[:1])
            for at in range(len(start)):
                more = packing.start - packing.packed(start) + packing.one_in(at)
                self.assertEqual(packing.unpacked(more, len(start)), tuple(int(one == at) for one in range(len(start))))
        packing = Packing((7, 2))
        self.assertEqual(packing.start + packing.packed((-3, 4)), packing.packed((4, 6)))

    def test_what_fits(self):
        for free in ((0, 0), (1, 9), (9, 0), (12, 3), (15, 16)):
            packing = Packing(free)
            for want in ((0, 0), (1, 0), (0, 9), (9, 9), (9, 1), (1, 3)):
                behind = (packing.start | packing.guards) - packing.packed(want)
                self.assertEqual(behind & packing.guards == packing.guards, is_within(want, free), (free, want))


class TestSearch(unittest.TestCase):
    def test_states_and_moves_in_order(self):
        for program, sizes, search in some_programs():
            net = Net(program)
            amounts = vector_of(program.pools, sizes)
            found, origins = [()], [[]]
            for index, bare in enumerate(found):
                steps = net.steps(bare, amounts)
                for move, _, later in steps:
                    if later not in found:
                        found.append(later)
                        origins.append([*origins[index], move])
                self.assertEqual(search.moves_at(index), [move for move, _, _ in steps])
                self.assertEqual(search.is_dead(index), index > 0 and all(peak is None for _, peak, _ in steps))
                self.assertEqual(search.used_at(index), net.held_in(bare))
                self.assertEqual(list(search.jobs_at(index).items()), list(net.jobs_of(bare).items()))
            self.assertEqual(search.bare_states(), found)
            self.assertEqual(search.how_many(), len(found))
            self.assertEqual(search.has_dead(), any(search.is_dead(index) for index in range(len(found))))
            self.assertEqual([search.moves_to(index) for index in range(len(found))], origins)

    def test_all_edges(self):
        for program, sizes, search in some_programs(60):
            net = Net(program)
            states = search.bare_states()
            for bare, edges in zip(states, search.edges()):
                steps = net.steps(bare, vector_of(program.pools, sizes))
                self.assertEqual(edges, [(peak, states.index(later)) for _, peak, later in steps])

    def test_ways(self):
        program = parse("pools a; job load limit 6 { take a 1 { } } job save limit 0 { take a 2 { } } job mend limit 3 { }")
        digits = Digits(Net(program), (4,))
        self.assertEqual([leads_in(way) for way in digits.open_ways(digits.start)], [True])
        number = digits.start
        for many in range(1, 7):
            number = number + digits.open_ways(number)[0][1][0]
            self.assertEqual(digits.bare_of(number), (0,) * many)
            self.assertEqual(digits.jobs_of(number), {("load", 0): many})
            self.assertEqual([leads_in(way) for way in digits.open_ways(number)], [True, False] if many < 6 else [False])
        self.assertEqual(digits.used_in(number), (0,))

    def test_more_than_2000(self):
        # So many ways for at most some jobs to be at some positions: 13 over 6, 14 over 6, 13 over 5, 14 over 5.
        take = "take a 1 { } "
        for many, limit, text in ((1716, 6, 7), (3003, 6, 8), (1287, 5, 8), (2002, 5, 9)):
            program = parse(f"pools a; job load limit {limit} {{ {take * text} }}")
            for amount in (1, 6, 10 ** 20):
                if many > 2000:
                    with self.assertRaises(TooMany) as caught:
                        Search(Net(program), (amount,))
                    self.assertEqual(caught.exception.number, 2000)
                else:
                    self.assertEqual(Search(Net(program), (amount,)).how_many(), many)
        three = "take a 1 { } take a 1 { } take a 1 { }"
        text = f"pools a; job load limit 3 {{ {three} }} job save limit 2 {{ {three} }} job mend limit 2 {{ {three} }}"
        self.assertEqual(len(list(reached(parse(text), Sizes({"a": 9})))), 20 * 10 * 10)
        with self.assertRaises(TooMany):
            list(reached(parse(text + " job wash limit 1 { take a 1 { } }"), Sizes({"a": 9})))


class TestReached(unittest.TestCase):
    def test_states_are_as_if_made_one_by_one(self):
        for program, sizes, search in some_programs(40):
            states = list(reached(program, sizes))
            self.assertEqual(len(states), search.how_many())
            for state in states:
                self.assertIs(type(state), State)
                jobs = state.jobs_by_position()
                turned = {place: jobs[place] for place in reversed(list(jobs))}
                same = State(program, sizes, turned)
                self.assertEqual(state, same)
                self.assertEqual(same, state)
                self.assertEqual(list(jobs.items()), list(same.jobs_by_position().items()))
                self.assertEqual((state.held, state.free, state.job_count), (same.held, same.free, same.job_count))
                self.assertEqual((state.program, state.sizes), (program, sizes))
                self.assertEqual(list(state.moves()), list(same.moves()))
                for move in same.moves():
                    self.assertIn(move, state)
                    self.assertEqual(state >> move, same >> move)
                self.assertEqual(state.at_sizes(sizes("a")), same.at_sizes(sizes("a")))

    def test_states_are_independent(self):
        program = parse(CROSSED)
        sizes = Sizes({"a": 1, "b": 1})
        one, other = list(reached(program, sizes)), list(reached(program, sizes))
        for state in one:
            state.jobs_by_position().clear()
        self.assertEqual(one, other)
        self.assertEqual(one[0], empty_state(program, sizes))
        self.assertEqual(len(one), 9)

    def test_known_state(self):
        program = parse(CROSSED)
        sizes = Sizes({"a": 1, "b": 1, "z": 2})
        state = known_state(program, sizes, {("load", 1): 1}, (1, 0))
        self.assertEqual(state, State(program, sizes, {("load", 1): 1}))
        self.assertEqual((str(state.held), str(state.free)), ("a 1", "b 1 z 2"))


class TestLineSearch(unittest.TestCase):
    def slow(self, program, sizes, most):
        """The lines that can be reached, the nearest ones first, with the moves to each; at most so many."""
        found, runs = [Line(program, sizes)], [[]]
        known = {(found[0].job_rows(), found[0].asked())}
        for line, run in zip(found, runs):
            for move in moves_in_line(line):
                later = line >> move
                key = (later.job_rows(), later.asked())
                if key not in known and len(found) <= most:
                    known.add(key)
                    found.append(later)
                    runs.append([*run, move])
        return found, runs

    def check(self, program, sizes, most=120):
        found, runs = self.slow(program, sizes, most)
        if len(found) > most:
            return False
        search = LineSearch(program, vector_of(program.pools, sizes))
        self.assertEqual(search.how_many(), len(found))
        stuck = [run for line, run in zip(found, runs) if stuck_in_line(line)]
        self.assertEqual(search.first_stuck_run(), stuck[0] if stuck else None)
        self.assertEqual(verdict_in_line(program, sizes), ("stuck", stuck[0]) if stuck else ("good", len(found)))
        return True

    def test_by_chance(self):
        looked = 0
        for seed in range(150):
            rng = random.Random(seed)
            program = random_program(seed, most_limit=rng.choice((1, 2, 3)))
            sizes = Sizes({pool: rng.choice((0, 1, 1, 2, 3, 10 ** 30)) for pool in program.pools})
            looked += self.check(program, sizes)
        self.assertGreater(looked, 80)

    def test_strands_of_one_job(self):
        codes = (
            THREE,
            "both { take a 1 { take b 1 { } } } and { take b 1 { take a 1 { } } }",
            "take b 1 { both { take a 1 { both { take a 1 { } } and { take b 1 { } } } } and { take a 1 { } } }",
            "either { both { take a 1 { } take a 1 { } } and { take a 1 { } } } or { take b 1 { } }",
            "both { take a 2 { } } and { either { } or { take a 1 { } } } take b 1 { }",
        )
        for code in codes:
            for limit in (1, 2):
                for amounts in ({"a": 1, "b": 1}, {"a": 2, "b": 1}, {"a": 1, "b": 2}, {"a": 9, "b": 9}, {}):
                    text = f"pools a b; job load limit {limit} {{ {code} }} job save limit 1 {{ take b 1 {{ take a 1 {{ }} }} }}"
                    program = parse(text)
                    if limit == 1:
                        program = parse(text.replace("job save limit 1", "job save limit 0"))
                    self.check(program, Sizes(amounts), 250)

    def test_free_amounts(self):
        for program, sizes, _ in some_programs(30):
            try:
                search = LineSearch(program, vector_of(program.pools, sizes))
            except TooMany:
                continue
            for index in range(search.how_many()):
                held = tuple(0 for _ in program.pools)
                for name, position in search._spots.bare_of(search._rows[index])[0]:
                    held = added(held, program.code(name).vector_held(position))
                self.assertEqual(added(search._free_at(index), held), vector_of(program.pools, sizes))


if __name__ == "__main__":
    unittest.main()
