"""[21] lines: pools that are served in the order of asking."""

import random

from leastpools.errors import InvalidSizes, InvalidState, NoMove, TooMany
from leastpools.lines import Line, lets_line_run, moves_in_line, stuck_in_line, verdict_in_line
from leastpools.parsing import parse
from leastpools.ranks import greatest_want, ranks
from leastpools.sizes import Sizes
from leastpools.verdicts import is_good
from tests.helpers import ANYTHING, CROSSED, ODD, Case, jobs
from tests.model import random_program, strands_at

PROGRAM = parse(CROSSED)
ONE = Sizes({"a": 1, "b": 1})
# The programs that the document tells in words.
ORDER = parse("pools p; job load limit 1 { take p 1 { take p 1 { } } } job save limit 1 { take p 3 { } }")
THREE = Sizes({"p": 3})
HELPED = parse(
    "pools b c q; job load limit 1 { take c 1 { } take b 1 { } take q 1 { take c 1 { } } }"
    "job save limit 1 { take b 1 { take q 1 { take c 1 { take q 1 { } } } } }"
)
HELP = Sizes({"b": 1, "c": 1, "q": 2})
BOTH = jobs("take a 1 { both { take b 1 { take c 1 { } } } and { take c 1 { } } } take b 1 { }", "take c 2 { }", pools="a b c", limit=2)
PLENTY = Sizes({"a": 5, "b": 5, "c": 5})


def done(line, *moves):
    for move in moves:
        line = line >> move
    return line


class Slow:
    """A line with jobs that keep their numbers, by the words of [21] alone."""

    def __init__(self, program, sizes):
        self.program, self.sizes = program, sizes
        self.jobs = {}
        self.asked = []
        self.last = 0

    def copy(self):
        other = Slow(self.program, self.sizes)
        other.jobs, other.asked, other.last = dict(self.jobs), list(self.asked), self.last
        return other

    def numbers(self):
        """The numbers of the jobs in the order of their first entries."""
        return list(dict.fromkeys(number for number, _ in self.asked))

    def wants(self, number):
        name, position = self.jobs[number]
        return dict(self.program.code(name).takers(position))

    def free(self):
        held = [self.program.code(name).held_by(position) for name, position in self.jobs.values()]
        return self.sizes - sum(held, start=Sizes({}))

    def asks(self, number, before):
        """Who did not wait at that take before asks."""
        name, position = self.jobs[number]
        for strand, _ in self.program.code(name).takers(position):
            if (strand, self.at(position, strand)) not in before:
                self.asked.append((number, strand))

    def at(self, position, strand):
        for side in strand:
            position = position[side + 1]
        return position

    def moves(self):
        for name in self.program.names():
            if [one for one, _ in self.jobs.values()].count(name) < self.program.limit(name):
                for position in self.program.code(name).first():
                    if position is not None:
                        yield ("enter", name, position)
        for at, (number, strand) in enumerate(self.asked):
            want = self.wants(number)[strand]
            ahead = [pool for one, other in self.asked[:at] for pool in self.wants(one)[other]]
            if want.fits(self.free()) and not set(want) & set(ahead):
                name, position = self.jobs[number]
                for later in self.program.code(name).after(position, strand):
                    yield ("take", self.numbers().index(number), strand, later)

    def behind(self, move):
        later = self.copy()
        if move[0] == "enter":
            later.last += 1
            later.jobs[later.last] = move[1:]
            later.asks(later.last, [])
            return later
        number = self.numbers()[move[1]]
        name, position = self.jobs[number]
        before = [(strand, self.at(position, strand)) for strand in self.wants(number)]
        later.asked.remove((number, move[2]))
        if move[3] is None:
            del later.jobs[number]
        else:
            later.jobs[number] = (name, move[3])
            later.asks(number, before)
        return later

    def told(self):
        """What a Line tells: the jobs and the entries with the jobs numbered anew."""
        numbers = self.numbers()
        return tuple(self.jobs[number] for number in numbers), tuple((numbers.index(number), strand) for number, strand in self.asked)

    def stuck(self):
        """The greatest set of strands that stay, if all others give back: those that go are thrown out, one by one."""
        numbers = self.numbers()
        rows = [(number, strand) for number in numbers for strand in strands_at(self.jobs[number][1])]
        held = {}
        for number in numbers:
            name, position = self.jobs[number]
            for strand, _, some, _ in self.program.code(name).strands(position):
                held[(number, strand)] = Sizes(dict(zip(self.program.pools, some)))
        left = list(rows)
        while True:
            rest = self.sizes - sum((held[row] for row in left), start=Sizes({}))
            going = [row for row in left if self.goes(row, rest, left)]
            if not going:
                return [(numbers.index(number), strand) for number, strand in rows if (number, strand) in left]
            left.remove(going[-1])

    def goes(self, row, rest, left):
        number, strand = row
        want = self.wants(number).get(strand)
        if want is None:
            return not any((number, (*strand, side)) in left for side in (0, 1))
        for one, other in self.asked[:self.asked.index(row)]:
            if (one, other) in left and set(self.wants(one)[other]) & set(want):
                return False
        return want.fits(rest)


def slow_search(program, sizes, most=300):
    """Lists (Slow, moves to it) of all lines, the nearest ones first; None if they are more than most."""
    found = [(Slow(program, sizes), [])]
    known = {found[0][0].told()}
    for slow, moves in found:
        for move in slow.moves():
            later = slow.behind(move)
            if later.told() not in known:
                known.add(later.told())
                found.append((later, [*moves, move]))
                if len(found) > most:
                    return None
    return found


def some_programs(most=150):
    """Tuples (program, sizes) by chance."""
    for seed in range(most):
        rng = random.Random(seed)
        program = random_program(seed, most_jobs=2)
        yield program, Sizes({pool: rng.randint(1, 4) for pool in program.pools})


class TestLine(Case):
    def test_without_jobs(self):
        line = Line(PROGRAM, ONE)
        self.assertEqual((line.job_rows(), line.asked(), line.left_over()), ((), (), ONE))
        self.assertEqual(line, Line(PROGRAM, ONE, (), ()))
        self.assertEqual(line, Line(program=PROGRAM, sizes=ONE, jobs=(), asked=()))
        self.assertEqual(list(moves_in_line(line)), [("enter", "load", 0), ("enter", "save", 0)])
        self.assertEqual(stuck_in_line(line), [])
        self.assertEqual(list(moves_in_line(Line(jobs("run;", "take a 9 { }", limit=0), ONE))), [])

    def test_jobs_are_numbered_by_their_first_entries(self):
        there = (("load", 1), ("save", 0))
        line = Line(PROGRAM, ONE, there, ((1, ()), (0, ())))
        self.assertEqual((line.job_rows(), line.asked()), ((("save", 0), ("load", 1)), ((0, ()), (1, ()))))
        self.assertEqual(line, Line(PROGRAM, ONE, there[::-1], ((0, ()), (1, ()))))
        self.assertNotEqual(line, Line(PROGRAM, ONE, there, ((0, ()), (1, ()))))
        self.assertEqual(str(line.left_over()), "b 1")
        # The first entry of each counts, however late the others stand.
        program = BOTH.with_limit("one", 6)
        there = (("one", (1, 2, 4)), ("one", (1, 3, None)), ("two", 0))
        line = Line(program, PLENTY, there, ((2, ()), (0, (1,)), (1, (0,)), (0, (0,))))
        self.assertEqual(line.job_rows(), (("two", 0), ("one", (1, 2, 4)), ("one", (1, 3, None))))
        self.assertEqual(line.asked(), ((0, ()), (1, (1,)), (2, (0,)), (1, (0,))))
        self.assertEqual(str(line.left_over()), "a 3 b 4 c 5")

    def test_equal(self):
        there, asked = (("load", 1), ("save", 0)), ((1, ()), (0, ()))
        line = Line(PROGRAM, ONE, there, asked)
        self.assertEqual(line, Line(parse(CROSSED), Sizes({"b": 1, "a": 1, "z": 0}), there, asked))
        for other in (Line(PROGRAM, ONE("z"), there, asked), Line(PROGRAM.with_limit("load", 2), ONE, there, asked), Line(PROGRAM, ONE), Line(PROGRAM, ONE, (("load", 0), ("save", 0)), asked)):
            self.assertNotEqual(line, other)
        for thing in (None, there, 1, (there, asked)):
            self.assertNotEqual(line, thing)
        self.assertEqual(str(Line(PROGRAM, ONE("z", 2), there, asked).left_over()), "b 1 z 2")

    def test_raises(self):
        for thing in ANYTHING:
            self.raises(InvalidState, thing, Line, thing, None, None, None)
            self.raises(InvalidSizes, thing, Line, PROGRAM, thing, None, None)
            there = (("load", 0),)
            if not isinstance(thing, tuple) or thing:
                self.raises(InvalidState, thing, Line, PROGRAM, ONE, thing, None)
                self.raises(InvalidState, thing, Line, PROGRAM, ONE, (), thing)
                asked = ((0, thing),)
                self.raises(InvalidState, asked, Line, PROGRAM, ONE, there, asked)
            if thing is not ANYTHING[3]:
                asked = ((thing, ()),)
                self.raises(InvalidState, asked, Line, PROGRAM, ONE, there, asked)
            some = (thing,)
            self.raises(InvalidState, some, Line, PROGRAM, ONE, some, ())
            self.raises(InvalidState, some, Line, PROGRAM, ONE, there, some)

    def test_wrong_jobs(self):
        for there in ([("load", 0)], (["load", 0],), (("load", 2),), (("load", True),), (("load", None),), (("none", 0),), (("load",),), (("load", 0, 0),), (("load", 0),) * 2, (("load", 1), ("save", (1, 1, 1)))):
            self.raises(InvalidState, there, Line, PROGRAM, ONE, there, ODD)
        there = (("load", 1),)
        self.raises(InvalidState, there, Line, PROGRAM, Sizes({"b": 9}), there, ((0, ()),))
        self.raises(InvalidState, there, Line, PROGRAM.with_limit("load", 0), ONE, there, ((0, ()),))
        # Two jobs that each hold one of a, and there is one.
        there = (("load", 1), ("load", 1))
        self.raises(InvalidState, there, Line, PROGRAM.with_limit("load", 2), ONE, there, ((0, ()), (1, ())))
        self.assertEqual(Line(PROGRAM.with_limit("load", 2), ONE("a"), there, ((0, ()), (1, ()))).job_rows(), there)

    def test_wrong_entries(self):
        there = (("load", 1), ("save", 0))
        for asked in ((), ((0, ()),), ((0, ()), (0, ())), ((0, ()), (1, ()), (0, ())), ((False, ()), (1, ())), ((0, ()), (True, ())), ([0, ()], (1, ())), [(0, ()), (1, ())],
                      ((0, []), (1, ())), ((0, (0,)), (1, ())), ((0, ()), (2, ())), ((0, ()), (-1, ())), ((0, ()), (1, ()), (2, ())), ((0, (), 0), (1, ()))):
            self.raises(InvalidState, asked, Line, PROGRAM, ONE, there, asked)
        there = (("one", (1, 2, 4)),)
        for asked in (((0, ()), (0, (0,)), (0, (1,))), ((0, (0,)),), ((0, (0,)), (0, (1, 0))), ((0, (False,)), (0, (True,))), ((0, (0,)), (0, (0,))), ((0, [0]), (0, (1,)))):
            self.raises(InvalidState, asked, Line, BOTH, PLENTY, there, asked)
        for asked in (((0, (0,)), (0, (1,))), ((0, (1,)), (0, (0,)))):
            self.assertEqual(Line(BOTH, PLENTY, there, asked).asked(), asked)

    def test_names_of_arguments(self):
        line = Line(program=PROGRAM, sizes=ONE, asked=((0, ()),), jobs=(("load", 0),))
        self.assertEqual(list(moves_in_line(line=line)), [("enter", "save", 0), ("take", 0, (), 1)])
        self.assertEqual(stuck_in_line(line=line), [])


class TestMoves(Case):
    def test_first_come(self):
        line = done(Line(ORDER, THREE), ("enter", "load", 0), ("enter", "save", 0))
        # Both want of one pool, so only the first one may take.
        self.assertEqual(list(moves_in_line(line)), [("take", 0, (), 1)])
        line = done(line, ("take", 0, (), 1))
        self.assertEqual((line.job_rows(), line.asked()), ((("save", 0), ("load", 1)), ((0, ()), (1, ()))))
        # What it wants is free, but who asked before it wants it, too.
        self.assertEqual((list(moves_in_line(line)), str(line.left_over())), ([], "p 2"))
        self.assertNotIn(("take", 1, (), None), line)
        self.raises(NoMove, ("take", 1, (), None), lambda move: line >> move, ("take", 1, (), None))

    def test_other_pools_do_not_matter(self):
        program = jobs("take a 1 { }", "take b 1 { }", "take a 1 b 1 { }")
        line = done(Line(program, ONE), ("enter", "one", 0), ("enter", "two", 0), ("enter", "three", 0))
        self.assertEqual(list(moves_in_line(line)), [("take", 0, (), None), ("take", 1, (), None)])
        # One of its pools is enough to have to wait behind another one.
        line = done(line, ("take", 0, (), None))
        self.assertEqual(list(moves_in_line(line)), [("enter", "one", 0), ("take", 0, (), None)])
        line = done(line, ("enter", "one", 0))
        self.assertEqual(line.job_rows(), (("two", 0), ("three", 0), ("one", 0)))
        self.assertEqual(list(moves_in_line(line)), [("take", 0, (), None)])
        self.assertEqual(list(moves_in_line(done(line, ("take", 0, (), None)))), [("enter", "two", 0), ("take", 0, (), None)])

    def test_what_is_not_free_holds_others_back(self):
        program = jobs("take a 2 { }", "take a 1 { }", "take b 1 { }")
        line = done(Line(program, ONE), ("enter", "one", 0), ("enter", "two", 0), ("enter", "three", 0))
        self.assertEqual(list(moves_in_line(line)), [("take", 2, (), None)])
        self.assertEqual(stuck_in_line(line), [(0, ()), (1, ())])

    def test_two_strands_of_one_move(self):
        line = done(Line(BOTH, PLENTY), ("enter", "one", 0), ("take", 0, (), (1, 2, 4)))
        self.assertEqual(line.asked(), ((0, (0,)), (0, (1,))))
        self.assertEqual(list(moves_in_line(line))[2:], [("take", 0, (0,), (1, 3, 4)), ("take", 0, (1,), (1, 2, None))])
        # The first strand asks anew, behind the second one, which wants the same.
        line = done(line, ("take", 0, (0,), (1, 3, 4)))
        self.assertEqual(line.asked(), ((0, (1,)), (0, (0,))))
        self.assertEqual(list(moves_in_line(line))[2:], [("take", 0, (1,), (1, 3, None))])
        line = done(line, ("take", 0, (1,), (1, 3, None)), ("take", 0, (0,), 5))
        self.assertEqual((line.job_rows(), line.asked()), ((("one", 5),), ((0, ()),)))

    def test_a_strand_of_the_same_job_that_asked_before(self):
        program = jobs("both { take a 2 { } } and { take a 1 { } }")
        line = done(Line(program, ONE), ("enter", "one", (0, 1, 2)))
        self.assertEqual(list(moves_in_line(line)), [])
        self.assertEqual(stuck_in_line(line), [(0, ()), (0, (0,)), (0, (1,))])
        self.assertEqual(list(moves_in_line(Line(program, ONE, (("one", (0, 1, 2)),), ((0, (1,)), (0, (0,)))))), [("take", 0, (1,), (0, 1, None))])

    def test_several_later_positions(self):
        program = jobs("take a 1 { either { take b 1 { } } or { both { take b 1 { } } and { take a 1 { } } } either { } or { take b 3 { } } }")
        line = done(Line(program, PLENTY), ("enter", "one", 0))
        self.assertEqual(list(moves_in_line(line)), [("take", 0, (), 1), ("take", 0, (), (2, 3, 4))])
        self.assertEqual([move[3] for move in moves_in_line(done(line, ("take", 0, (), 1)))], [None, 5])

    def test_no_moves(self):
        line = done(Line(PROGRAM, ONE), ("enter", "load", 0))
        good = [("enter", "save", 0), ("take", 0, (), 1)]
        self.assertEqual(list(moves_in_line(line)), good)
        others = [("enter", "load", 0), ("enter", "save", 1), ("enter", "save", False), ("enter", "save"), ("enter", "save", 0, 0), ["enter", "save", 0], ("enter", "none", 0),
                  ("enter", "save", None), ("enter", ODD, 0), ("enter", "save", ODD), ("take", 0, (), 0), ("take", 0, (), None), ("take", 0, (), True), ("take", False, (), 1),
                  ("take", 1, (), 1), ("take", -1, (), 1), ("take", 0, [], 1), ("take", 0, (0,), 1), ("take", 0, (), ODD), ("take", ODD, (), 1), ("take", 0, ODD, 1), ("take", 0, (), (1, 1, 1)),
                  ("take", "load", 0, (), 1), ("take", 0, (), 1, 1), ("take", 0, ())]
        for thing in [*ANYTHING, *others]:
            self.assertIs(thing in line, False)
            self.raises(NoMove, thing, lambda move: line >> move, thing)
        for move in good:
            self.assertIs(move in line, True)
            self.assertIsInstance(line >> move, Line)
        self.assertEqual(line, done(Line(PROGRAM, ONE), ("enter", "load", 0)))

    def test_no_line(self):
        for thing in [*ANYTHING, PROGRAM]:
            self.raises_when_iterated(InvalidState, thing, moves_in_line, thing)
            self.raises(InvalidState, thing, stuck_in_line, thing)

    def test_by_chance(self):
        many = 0
        for program, sizes in some_programs():
            rng = random.Random(3)
            line, slow = Line(program, sizes), Slow(program, sizes)
            for _ in range(25):
                moves = list(slow.moves())
                self.assertEqual(list(moves_in_line(line)), moves)
                self.assertEqual((line.job_rows(), line.asked()), slow.told())
                self.assertEqual(line.left_over(), slow.free())
                self.assertEqual(stuck_in_line(line), slow.stuck())
                if not moves:
                    break
                move = rng.choice(moves)
                line, slow = line >> move, slow.behind(move)
                self.assertEqual(line, Line(program, sizes, *slow.told()))
                many += 1
        self.assertGreater(many, 900)


class TestStuck(Case):
    def test_in_order(self):
        line = done(Line(ORDER, THREE), ("enter", "load", 0), ("enter", "save", 0), ("take", 0, (), 1))
        self.assertEqual(stuck_in_line(line), [(0, ()), (1, ())])
        # In another order the one behind takes and gives back.
        self.assertEqual(stuck_in_line(Line(ORDER, THREE, (("load", 1), ("save", 0)), ((0, ()), (1, ())))), [])

    def test_a_job_that_holds_what_a_strand_inside_wants(self):
        program = jobs("take a 1 { both { take a 1 { } } and { take b 1 { } } }", "take b 1 { }")
        line = done(Line(program, ONE), ("enter", "one", 0), ("take", 0, (), (1, 2, 3)), ("enter", "two", 0))
        self.assertEqual(stuck_in_line(line), [(0, ()), (0, (0,))])
        self.assertEqual(list(moves_in_line(line)), [("take", 0, (1,), (1, 2, None))])
        self.assertEqual(stuck_in_line(done(line, ("take", 0, (1,), (1, 2, None)))), [(0, ()), (0, (0,))])

    def test_both_and_what_waits_behind_it(self):
        program = jobs("take a 1 { both { take b 2 { } } and { take a 1 { } } }", "take a 1 { }")
        there, asked = (("one", (1, 2, None)), ("two", 0)), ((0, (0,)), (1, ()))
        # Who waits at the both gives back when those inside are over.
        self.assertEqual(stuck_in_line(Line(program, Sizes({"a": 1, "b": 2}), there, asked)), [])
        self.assertEqual(stuck_in_line(Line(program, Sizes({"a": 1, "b": 1}), there, asked)), [(0, ()), (0, (0,)), (1, ())])
        self.assertEqual(stuck_in_line(Line(program, Sizes({"a": 2, "b": 1}), there, asked)), [(0, ()), (0, (0,))])

    def test_what_is_given_back_counts_once(self):
        # Each of the first three waits for what the next one holds; the job at the both gives its one of a back once.
        ring = "either { take a 3 { } } or { take a 1 { both { take b 1 { } } and { take b 1 { } } } }"
        program = jobs("take c 1 { }", "take c 1 { take d 1 { } }", "take d 1 { take b 1 { } }", ring, pools="a b c d", limit=2)
        there = (("one", 0), ("two", 1), ("three", 1), ("four", (2, 3, None)), ("four", 0))
        asked = ((0, ()), (1, ()), (2, ()), (3, (0,)), (4, ()))
        sizes = Sizes({"a": 2, "b": 2, "c": 1, "d": 1})
        self.assertEqual(stuck_in_line(Line(program, sizes, there, asked)), [(4, ())])
        self.assertEqual(stuck_in_line(Line(program, sizes("a"), there, asked)), [])

    def test_results_are_new(self):
        line = done(Line(ORDER, THREE), ("enter", "load", 0), ("enter", "save", 0), ("take", 0, (), 1))
        stuck_in_line(line).clear()
        self.assertEqual(len(stuck_in_line(line)), 2)

    def test_a_stuck_strand_stays_so(self):
        stuck = 0
        for program, sizes in some_programs():
            for slow, _ in slow_search(program, sizes) or ():
                line = Line(program, sizes, *slow.told())
                later = [line >> move for move in moves_in_line(line)]
                if stuck_in_line(line):
                    stuck += 1
                    self.assertTrue(all(stuck_in_line(one) for one in later))
                elif line.job_rows():
                    self.assertTrue(any(move[0] == "take" for move in moves_in_line(line)))
        self.assertGreater(stuck, 300)


class TestVerdict(Case):
    def test_both_programs_of_the_document(self):
        self.assertIs(is_good(ORDER, THREE), True)
        self.assertEqual(verdict_in_line(ORDER, THREE), ("stuck", [("enter", "load", 0), ("enter", "save", 0), ("take", 0, (), 1)]))
        self.assertIs(is_good(HELPED, HELP), False)
        self.assertEqual(verdict_in_line(HELPED, HELP)[0], "good")
        self.assertEqual(verdict_in_line(HELPED, HELP)[1], len(slow_search(HELPED, HELP)))
        self.assertEqual(verdict_in_line(program=PROGRAM, sizes=ONE)[0], "stuck")
        self.assertEqual(len(verdict_in_line(PROGRAM, ONE)[1]), 4)

    def test_nothing_to_do(self):
        self.assertEqual(verdict_in_line(jobs("run;"), Sizes({})), ("good", 1))
        self.assertEqual(verdict_in_line(jobs("take a 1 { }"), Sizes({"a": 1})), ("good", 2))
        self.assertEqual(verdict_in_line(jobs("take a 1 { }"), Sizes({"z": 9})), ("stuck", [("enter", "one", 0)]))
        self.assertEqual(verdict_in_line(jobs("take a 1 { }", limit=0), Sizes({})), ("good", 1))

    def test_by_chance(self):
        words = []
        for program, sizes in some_programs():
            found = slow_search(program, sizes)
            if found is None:
                continue
            told = verdict_in_line(program, sizes)
            lengths = [len(moves) for slow, moves in found if slow.stuck()]
            words.append((is_good(program, sizes), not lengths))
            if not lengths:
                self.assertEqual(told, ("good", len(found)))
            else:
                self.assertEqual((told[0], len(told[1])), ("stuck", min(lengths)))
                self.assertIs(lets_line_run(program, sizes, told[1]), True)
        self.assertGreater(min(words.count((True, True)), words.count((False, False))), 20)

    def test_one_pool_at_a_time_with_ranks(self):
        good = 0
        for seed in range(400):
            program = random_program(seed, most_jobs=2)
            sizes = greatest_want(program)
            if ranks(program) is None or "), (" in str([row[1] for row in takes_of(program)]):
                continue
            for more in (sizes, sizes(program.pools[0]), sizes(program.pools[-1], 2)):
                try:
                    self.assertEqual(verdict_in_line(program, more)[0], "good")
                    good += 1
                except TooMany:
                    pass
        self.assertGreater(good, 100)
        program = jobs("take a 2 { take b 1 { } }", "take b 1 { take c 3 { } }", "take a 1 { both { take c 1 { } } and { take b 1 { } } }", pools="a b c")
        self.assertEqual(verdict_in_line(program, greatest_want(program))[0], "good")
        self.assertEqual(verdict_in_line(program, Sizes({"a": 1, "b": 1, "c": 3}))[0], "stuck")

    def test_2000(self):
        a, b, c, d = [f"take {pool} 1 {{ }} " for pool in "abcd"]
        plenty = Sizes({"a": 9, "b": 9, "c": 9, "d": 9})
        program = jobs(f"both {{ {a * 2} }} and {{ {b * 11} }} {d * 4}", c * 15, pools="a b c d")
        self.assertEqual(verdict_in_line(program, plenty), ("good", 2000))
        # 1 + 12 lines with no job of two, 7 + 2 * 7 * 12 with one, 7 * 7 + 3 * 7 * 7 * 12 with two: 2001.
        program = jobs(a * 12, b * 7).with_limit("two", 2)
        self.raises(TooMany, 2000, verdict_in_line, program, plenty)
        # A stuck strand that is near does not help.
        self.raises(TooMany, 2000, verdict_in_line, jobs(a * 12, b * 7, "take z 1 { }", pools="a b z", limit=2), plenty)
        self.assertEqual(verdict_in_line(jobs(a * 3, b * 3, "take z 1 { }", pools="a b z"), plenty), ("stuck", [("enter", "three", 0)]))

    def test_raises(self):
        for thing in ANYTHING:
            self.raises(InvalidState, thing, verdict_in_line, thing, None)
            self.raises(InvalidSizes, thing, verdict_in_line, PROGRAM, thing)


def takes_of(program):
    """All takes in the codes of a program."""
    found = []
    waiting = [code for _, _, code in program.jobs]
    for code in waiting:
        for statement in code:
            if statement[0] == "take":
                found.append(statement)
            waiting.extend(part for part in statement[1:] if statement[0] not in ("call", "give") and isinstance(part, tuple) and statement[0] != "take")
            if statement[0] == "take":
                waiting.append(statement[2])
    return found


class TestLetsLineRun(Case):
    RUN = [("enter", "load", 0), ("enter", "save", 0), ("take", 0, (), 1)]

    def test_runs(self):
        self.assertIs(lets_line_run(ORDER, THREE, self.RUN), True)
        self.assertIs(lets_line_run(program=ORDER, sizes=THREE, thing=[tuple(move) for move in self.RUN]), True)
        # The run without its end, and with moves that cannot be done.
        self.assertIs(lets_line_run(ORDER, THREE, self.RUN[:2]), False)
        self.assertIs(lets_line_run(ORDER, THREE, []), False)
        self.assertIs(lets_line_run(ORDER, THREE, self.RUN + [("take", 1, (), None)]), False)
        self.assertIs(lets_line_run(ORDER, THREE, self.RUN[1:]), False)
        self.assertIs(lets_line_run(ORDER, THREE, [self.RUN[1], self.RUN[0], ("take", 0, (), None)]), False)
        self.assertIs(lets_line_run(ORDER, Sizes({"p": 4}), self.RUN), False)
        self.assertIs(lets_line_run(ORDER, Sizes({"p": 2}), self.RUN[1:2]), True)
        self.assertIs(lets_line_run(ORDER, Sizes({"p": 2}), self.RUN[1::-1]), True)
        self.assertIs(lets_line_run(HELPED, HELP, []), False)

    def test_other_values(self):
        for thing in [*ANYTHING, tuple(self.RUN), dict(enumerate(self.RUN)), "take"]:
            self.assertIs(lets_line_run(ORDER, THREE, thing), False)
            self.assertIs(lets_line_run(ORDER, THREE, [thing]), False)
            self.assertIs(lets_line_run(ORDER, THREE, self.RUN[:2] + [thing]), False)
            self.assertIs(lets_line_run(ORDER, THREE, self.RUN + [thing]), False)
            self.raises(InvalidState, thing, lets_line_run, thing, None, ODD)
            self.raises(InvalidSizes, thing, lets_line_run, ORDER, thing, ODD)
        for move in (("take", False, (), 1), ("take", 0, (), True), ["take", 0, (), 1], ("take", 0, [], 1)):
            self.assertIs(lets_line_run(ORDER, THREE, self.RUN[:2] + [move]), False)
