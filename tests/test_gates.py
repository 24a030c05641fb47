"""[28] peaks and gates."""

import random

from leastpools.errors import InvalidProgram, InvalidSizes, InvalidState, NoMove, TooMany
from leastpools.gates import gate_run, gates, lets_gates, peak
from leastpools.grids import Goods, caps
from leastpools.parsing import parse
from leastpools.runs import Run
from leastpools.sizes import Sizes
from leastpools.verdicts import reached
from tests.helpers import ANYTHING, CROSSED, ODD, Case, jobs
from tests.model import random_program

PROGRAM = parse(CROSSED)
ONE = Sizes({"a": 1, "b": 1})
MOVES = [("enter", "load", 0), ("enter", "save", 0), ("take", "load", 0, (), 1), ("take", "save", 0, (), 1)]
# The second take is reached through one of a or of b; the third one through two of one of both.
WAYS = jobs("either { take a 1 { } } or { take b 1 { } } take c 1 { } either { take a 2 { } } or { take b 2 { } } take c 1 { }", pools="a b c")
LARGE = parse("pools a; job one limit 6 { " + "take a 1 { } " * 8 + "}")


def texts(some):
    return [str(one) for one in some]


def slow_peak(program, moves):
    """The peak by the states of a run with the caps."""
    run = Run(program, caps(program))
    most = Sizes({})
    for move in moves:
        if move[0] == "take":
            want = dict(program.code(move[1]).takers(move[2]))[move[3]]
            most = most | (run.state.held + want)
        run(move)
    return most


def some_programs(most=60):
    """Programs by chance with a few states."""
    for seed in range(200):
        program = random_program(seed, most_jobs=2)
        try:
            if len(list(reached(program, caps(program)))) <= most:
                yield program
        except TooMany:
            continue


class TestPeak(Case):
    def test_examples(self):
        document = parse("pools s t; job load limit 2 { take s 1 { take t 1 { take t 1 { } } } }")
        run = [("enter", "load", 0), ("take", "load", 0, (), 1), ("take", "load", 1, (), 2)]
        self.assertEqual([str(peak(document, run[:many])) for many in range(4)], ["-", "-", "s 1", "s 1 t 1"])
        self.assertEqual([str(peak(PROGRAM, MOVES[:many])) for many in range(5)], ["-", "-", "-", "a 1", "a 1 b 1"])
        self.assertEqual(str(peak(PROGRAM, [*MOVES, ("take", "load", 1, (), None)])), "a 1 b 2")

    def test_what_was_held_before(self):
        moves = [("enter", "load", 0), ("take", "load", 0, (), 1), ("take", "load", 1, (), None)]
        self.assertEqual(str(peak(PROGRAM, moves + moves)), "a 1 b 1")
        # What all hold counts at each take, also of pools that it does not want.
        self.assertEqual(str(peak(PROGRAM, moves[:2] + [MOVES[1], MOVES[3]])), "a 1 b 1")
        program = jobs("take a 3 { give a 2; take b 1 { } }")
        self.assertEqual(str(peak(program, [("enter", "one", 0), ("take", "one", 0, (), 1), ("take", "one", 1, (), None)])), "a 3 b 1")

    def test_a_run_is_possible_just_where_its_peak_fits(self):
        for program in some_programs():
            rng = random.Random(7)
            run = Run(program, caps(program))
            for _ in range(12):
                moves = list(run.state.moves())
                if moves:
                    run(rng.choice(moves))
            told = peak(program, run.done())
            self.assertEqual(told, slow_peak(program, run.done()))
            try:
                grid = [sizes for sizes, _ in Goods(program).grid()]
            except TooMany:
                continue
            for sizes in grid[::max(1, len(grid) // 20)]:
                self.assertIs(run.at_sizes(sizes)[1] is None, told.fits(sizes))

    def test_raises(self):
        for thing in ANYTHING:
            self.raises(InvalidProgram, thing, peak, thing, None)
            if not isinstance(thing, list):
                self.raises(NoMove, thing, peak, PROGRAM, thing)
            self.raises(NoMove, thing, peak, PROGRAM, [thing])
            self.raises(NoMove, thing, peak, PROGRAM, [*MOVES, thing, ODD])
        self.raises(NoMove, MOVES[2], peak, PROGRAM, MOVES[2:])
        self.raises(NoMove, MOVES[0], peak, PROGRAM, [MOVES[0], *MOVES])
        self.raises(NoMove, tuple(MOVES), peak, PROGRAM, tuple(MOVES))
        for move in (("enter", "load", False), ("take", "load", False, (), 1), ("take", "load", 0, (), True), ["enter", "load", 0]):
            self.raises(NoMove, move, peak, PROGRAM, [MOVES[0], move])
        self.assertEqual(peak(program=PROGRAM, moves=[]), Sizes({}))


class TestGates(Case):
    def test_crossed(self):
        told = [(jobs_there, texts(some)) for jobs_there, some in gates(PROGRAM)]
        self.assertEqual(told, [
            ({}, ["-"]), ({("load", 0): 1}, ["-"]), ({("save", 0): 1}, ["-"]), ({("load", 0): 1, ("save", 0): 1}, ["-"]), ({("load", 1): 1}, ["a 1"]),
            ({("save", 1): 1}, ["b 1"]), ({("load", 1): 1, ("save", 0): 1}, ["a 1"]), ({("load", 0): 1, ("save", 1): 1}, ["b 1"]),
            ({("load", 1): 1, ("save", 1): 1}, ["a 1 b 1"]),
        ])

    def test_ways_of_which_none_needs_less(self):
        told = {list(some)[0][1] if some else None: texts(rows) for some, rows in gates(WAYS)}
        self.assertEqual(told[2], ["b 1", "a 1"])
        self.assertEqual((told[None], told[0], told[1], told[3], told[4]), (["-"], ["-"], ["-"], ["b 1 c 1", "a 1 c 1"], ["b 1 c 1", "a 1 c 1"]))
        self.assertEqual(told[5], ["b 2 c 1", "a 2 c 1"])

    def test_two_ways_through_two_pools(self):
        told = {list(some)[0][1] if some else None: texts(rows) for some, rows in gates(jobs(
            "either { take a 1 { } } or { take b 2 { } } either { take a 2 { } } or { take b 1 { } } take c 1 { }", pools="b a c"))}
        self.assertEqual(told[4], ["a 2", "a 1 b 1", "b 2"])

    def test_as_reached_tells(self):
        several = 0
        for program in some_programs():
            told = gates(program)
            self.assertEqual([some for some, _ in told], [state.jobs_by_position() for state in reached(program, caps(program))])
            for _, rows in told:
                vectors = [[sizes[pool] for pool in program.pools] for sizes in rows]
                self.assertEqual(vectors, sorted(vectors))
                several += len(rows) > 1
                for one in rows:
                    self.assertFalse(any(other.fits(one) for other in rows if other is not one))
            self.assertIs(lets_gates(program, told), True)
            try:
                grid = [sizes for sizes, _ in Goods(program).grid()]
            except TooMany:
                continue
            for sizes in grid[::max(1, len(grid) // 20)]:
                there = [some for some, rows in told if any(one.fits(sizes) for one in rows)]
                states = [state.jobs_by_position() for state in reached(program, sizes)]
                self.assertEqual(sorted(map(str, there)), sorted(map(str, states)))
        self.assertGreater(several, 10)

    def test_2000(self):
        three = "take a 1 { take b 1 { take a 1 { } } }"
        text = "pools a b; job one limit 3 {{ {0} }} job two limit 3 {{ {0} }} job three limit {1} {{ take a 1 {{ }} }}"
        self.assertEqual(len(gates(parse(text.format(three, 4)))), 2000)
        self.raises(TooMany, 2000, gates, parse(text.format(three, 5)))
        self.raises(TooMany, 2000, gates, LARGE)

    def test_results_are_new(self):
        told = gates(PROGRAM)
        told[0][1].clear()
        told[1][0].clear()
        self.assertIs(lets_gates(PROGRAM, told), False)
        self.assertIs(lets_gates(PROGRAM, gates(PROGRAM)), True)

    def test_no_program(self):
        for thing in ANYTHING:
            self.raises(InvalidProgram, thing, gates, thing)
        self.assertEqual(len(gates(program=PROGRAM)), 9)


class TestGateRun(Case):
    def test_crossed(self):
        there = {("load", 1): 1, ("save", 1): 1}
        told = gate_run(PROGRAM, there, ONE)
        self.assertEqual(Run(PROGRAM, ONE, told).state.jobs_by_position(), there)
        self.assertEqual(gate_run(PROGRAM, {}, Sizes({})), [])
        self.assertIsNone(gate_run(PROGRAM, there, Sizes({"a": 9})))
        self.assertIsNone(gate_run(PROGRAM, there, Sizes({"a": 9, "z": 9})))
        self.assertEqual(gate_run(PROGRAM, there, Sizes({"a": 9, "b": 9, "z": 9})), told)

    def test_the_first_gate_that_fits(self):
        there = {("one", 2): 1}
        for amounts, first in (({"a": 1, "b": 1}, 1), ({"a": 1}, 0), ({"b": 5, "a": 5}, 1), ({"b": 1, "z": 3}, 1)):
            told = gate_run(WAYS, there, Sizes(amounts))
            self.assertEqual(told, [("enter", "one", first), ("take", "one", first, (), 2)])
        for amounts in ({}, {"c": 9}, {"z": 9}):
            self.assertIsNone(gate_run(WAYS, there, Sizes(amounts)))

    def test_by_chance(self):
        for program in some_programs(40):
            rng = random.Random(3)
            for there, rows in gates(program):
                for one in rows:
                    told = gate_run(program, there, one)
                    self.assertEqual((Run(program, one, told).state.jobs_by_position(), peak(program, told)), (there, one))
                sizes = Sizes({pool: rng.randint(0, 3) for pool in program.pools})
                fitting = [one for one in rows if one.fits(sizes)]
                told = gate_run(program, there, sizes)
                if fitting:
                    self.assertEqual(peak(program, told), fitting[0])
                else:
                    self.assertIsNone(told)

    def test_jobs_that_are_never_there(self):
        # Who never waits is at no position; all others are reached with the caps.
        program = jobs("take a 2 { give a 1; take b 1 { } }", "run;", limit=2)
        there = {("two", 0): 1}
        self.raises(InvalidState, there, gate_run, program, there, None)
        self.assertIsNone(gate_run(program, {("one", 1): 2}, Sizes({"a": 2})))
        self.assertEqual(len(gate_run(program, {("one", 1): 2}, Sizes({"a": 3}))), 4)

    def test_raises(self):
        others = [{("load", 0): 2}, {("load", 2): 1}, {("load", 0): 0}, {("load", 0): True}, {("load", True): 1}, {("none", 0): 1}, {"load": 1}, {("load", 0): ODD},
                  {("load", 0, 0): 1}, [("load", 0)], {("load", None): 1}]
        for thing in ANYTHING:
            self.raises(InvalidProgram, thing, gate_run, thing, None, None)
            self.raises(InvalidSizes, thing, gate_run, PROGRAM, {}, thing)
        for thing in [*ANYTHING, *others]:
            if not (isinstance(thing, dict) and len(thing) == 0):
                self.raises(InvalidState, thing, gate_run, PROGRAM, thing, None)
        # The order is that in which the document tells them.
        self.raises(TooMany, 2000, gate_run, LARGE, {}, Sizes({}))
        self.raises(TooMany, 2000, gate_run, LARGE, None, None)
        self.assertEqual(gate_run(program=PROGRAM, jobs={}, sizes=ONE), [])


class TestLetsGates(Case):
    def lets(self, thing, program=PROGRAM):
        return lets_gates(program, thing)

    def test_order_and_repeats(self):
        told = gates(PROGRAM)
        self.assertIs(self.lets(told[::-1]), True)
        self.assertIs(self.lets(told + told), True)
        self.assertIs(self.lets([(dict(reversed(list(there.items()))), rows[::-1] * 2) for there, rows in told]), True)
        # The entries of a state may stand in several rows.
        told = gates(WAYS)
        self.assertIs(self.lets([(there, [one]) for there, rows in told for one in rows], WAYS), True)
        self.assertIs(self.lets(told + [({}, [])], WAYS), True)

    def test_left_out(self):
        for program in (PROGRAM, WAYS):
            told = gates(program)
            for at, (there, rows) in enumerate(told):
                self.assertIs(self.lets(told[:at] + told[at + 1:], program), False)
                self.assertIs(self.lets(told[:at] + [(there, [])] + told[at + 1:], program), False)
                for one in range(len(rows)):
                    fewer = rows[:one] + rows[one + 1:]
                    self.assertIs(self.lets(told[:at] + [(there, fewer)] + told[at + 1:], program), False)
        self.assertIs(self.lets([]), False)
        self.assertIs(self.lets([], jobs("run;")), False)
        self.assertIs(self.lets([({}, [Sizes({})])], jobs("run;")), True)
        self.assertIs(self.lets([({}, [Sizes({})])]), False)

    def test_greater_and_smaller(self):
        told = gates(PROGRAM)
        for at, (there, rows) in enumerate(told):
            for pool in ("a", "b"):
                self.assertIs(self.lets(told[:at] + [(there, [rows[0](pool)])] + told[at + 1:]), False)
                # One more entry is right if those behind it have one as small.
                self.assertIs(self.lets(told[:at] + [(there, rows + [rows[0](pool)])] + told[at + 1:]), True)
            self.assertIs(self.lets(told[:at] + [(there, [rows[0]("z", 5)])] + told[at + 1:]), True)
        # A smaller entry asks for smaller ones behind it: load at its second take, with and without the other job.
        bent = [(there, [Sizes({})] if there == {("load", 1): 1} else rows) for there, rows in told]
        self.assertIs(self.lets(bent), False)
        bent = [(there, [Sizes({})] if ("load", 1) in there and ("save", 1) not in there else rows) for there, rows in told]
        self.assertIs(self.lets(bent), True)
        self.assertIs(self.lets([(there, [Sizes({})]) for there, _ in told]), True)
        self.assertIs(self.lets([(there, [ONE]) for there, _ in told]), False)
        self.assertIs(self.lets([({}, [Sizes({"z": 1})])] + told[1:]), True)
        self.assertIs(self.lets([({}, [ONE])] + told[1:]), False)

    def test_by_chance(self):
        for program in some_programs(25):
            rng = random.Random(5)
            told = gates(program)
            for _ in range(20):
                at = rng.randrange(len(told))
                there, rows = told[at]
                one = rng.randrange(len(rows))
                pool = rng.choice(program.pools)
                others = rows[:one] + rows[one + 1:]
                bent = told[:at] + [(there, others + [rows[one](pool)])] + told[at + 1:]
                # A gate that is too great is none of the least peaks of the run to the state.
                self.assertIs(self.lets(bent, program), False)

    def test_jobs_that_are_not_within_the_limits(self):
        told = gates(PROGRAM.with_limit("load", 2))
        self.assertIs(self.lets(told, PROGRAM.with_limit("load", 2)), True)
        self.assertIs(self.lets(told), False)

    def test_wrong_ones(self):
        told = gates(PROGRAM)
        for at, (there, rows) in enumerate(told):
            for one in ([there, rows], (there, tuple(rows)), (there, rows, 1), (there,), (there, rows[0]), (there, [rows[0].by_name()]), (there, [*rows, ODD]), (there, [*rows, None]),
                        (there, ODD), (ODD, rows), (None, rows), (list(there.items()), rows), ({key: True for key in there} or ODD, rows),
                        ({(name, bool(position)): 1 for name, position in there} or None, rows), ({key: 2 for key in there} or {0: 0}, rows), ({**there, "load": 1}, rows)):
                self.assertIs(self.lets(told[:at] + [one] + told[at + 1:]), False)
                self.assertIs(self.lets(told + [one]), False)
        for thing in [*ANYTHING, tuple(told), {}, dict(enumerate(told))]:
            self.assertIs(self.lets(thing), False)
            self.assertIs(self.lets(told + [thing]), False)
            self.assertIs(self.lets(told + [({}, thing)]), isinstance(thing, list) and len(thing) == 0)
            self.raises(InvalidProgram, thing, lets_gates, thing, told)
            self.raises(InvalidProgram, thing, lets_gates, thing, ODD)
        self.assertIs(lets_gates(program=PROGRAM, thing=told), True)

    def test_other_programs(self):
        told = gates(PROGRAM)
        self.assertIs(self.lets(told, PROGRAM.with_limit("load", 2)), False)
        self.assertIs(self.lets(told, PROGRAM.with_limit("load", 0)), False)
        self.assertIs(self.lets(gates(PROGRAM.with_limit("load", 0))), False)
        # More than 2000 states are no matter for the checker.
        self.assertIs(self.lets([({}, [Sizes({})])], LARGE), False)
