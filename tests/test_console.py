"""[27] the console."""

import random

from leastpools.console import Console
from leastpools.errors import InvalidCommand, InvalidProgram, InvalidState, InvalidText, NoJob, NoMove, TooMany
from leastpools.grids import Goods, caps
from leastpools.parsing import parse
from leastpools.printing import format_program
from leastpools.ranks import ranks
from leastpools.runtimes import Runtime
from leastpools.sizes import Sizes
from leastpools.verdicts import is_good, verdict
from leastpools.watching import fewest_stops, word_of
from tests.helpers import ANYTHING, CROSSED, Case
from tests.model import random_program
from tests.test_runtimes import slow_text

INSIDE = "pools a b; job one limit 2 { either { } or { take a 1 { both { take b 1 { } } and { take a 1 { } } } } either { } or { take b 2 { } } }"
# One line for each form, with right words.
RIGHT = ("sizes a 1 b 1", "careful", "plain", "enter load 0", "take 1 . 0", "fail 1", "good", "run", "caps", "least", "ranks", "free", "word", "lines", "jobs", "stops")
OF_PROGRAM = ("caps", "least", "ranks")
OF_RUNTIME = ("good", "run", "free", "word", "lines", "jobs", "stops")


def with_program(text=CROSSED, *lines):
    console = Console()
    console.run("program " + text)
    for line in lines:
        console.run(line)
    return console


class TestAnswers(Case):
    def answers(self, console, lines):
        return [console.run(line) for line in lines]

    def test_crossed(self):
        console = Console()
        self.assertEqual(self.answers(console, ["program " + CROSSED, "caps", "least", "ranks"]), ["ok", "a 2 b 2", "a 1 b 2; a 2 b 1", "-"])
        self.assertEqual(self.answers(console, ["sizes a 1 b 1", "good", "run", "free", "word", "lines", "jobs", "stops"]), ["ok", "no", "4", "a 1 b 1", "safe", "0", "-", "-"])
        self.assertEqual(self.answers(console, ["enter load 0", "enter load 0", "enter save 0", "take 1 . 0", "take 2 . 0"]), ["1", "-", "2", "ok", "ok"])
        self.assertEqual(self.answers(console, ["free", "word", "lines", "jobs", "stops"]), ["-", "stuck", "4", "1 load 1; 2 save 1", "load 1"])
        self.assertEqual(self.answers(console, ["take 1 . 0", "fail 2", "take 1 . 0", "jobs", "enter load 0", "jobs", "lines"]), ["wait", "ok", "ok", "-", "3", "3 load 0", "7"])
        # Anew with the same sizes, careful.
        self.assertEqual(self.answers(console, ["careful", "jobs", "lines", "free", "enter load 0", "enter save 0", "take 1 . 0", "take 2 . 0"]), ["ok", "-", "0", "a 1 b 1", "1", "2", "ok", "wait"])
        self.assertEqual(self.answers(console, ["plain", "enter load 0", "enter save 0", "take 1 . 0", "take 2 . 0", "lines"]), ["ok", "1", "2", "ok", "ok", "4"])
        self.assertEqual(self.answers(console, ["careful", "sizes a 2 b 1", "good", "run", "free", "jobs"]), ["ok", "ok", "yes", "-", "a 2 b 1", "-"])
        self.assertIsInstance(Console().run(line="program " + CROSSED), str)

    def test_sizes(self):
        console = with_program()
        self.assertEqual(self.answers(console, ["sizes", "free", "sizes a 0 z 7", "free", "sizes b 999", "free", "sizes pools 1", "free"]), ["ok", "-", "ok", "z 7", "ok", "b 999", "ok", "pools 1"])
        self.assertEqual(console.run("run"), "1")

    def test_ranks(self):
        self.assertEqual(with_program("pools b a; job one limit 1 { take a 1 { take b 1 { } } }").run("ranks"), "b 1 a 0")

    def test_a_careful_runtime_lets_nobody_in(self):
        console = with_program(CROSSED, "sizes a 1", "careful")
        self.assertEqual(self.answers(console, ["enter load 0", "plain", "enter load 0", "word", "stops"]), ["-", "ok", "1", "doomed", "load 0"])

    def test_positions_with_strands_inside(self):
        console = with_program(INSIDE, "sizes a 3 b 3")
        # Who may be over at once has that left out of the positions: 0 and 4.
        self.assertEqual(self.answers(console, ["enter one 1", "jobs", "enter one 0", "jobs"]), ["1", "1 one 4", "2", "1 one 4; 2 one 0"])
        self.assertEqual(self.answers(console, ["take 2 . 0", "jobs", "take 2 .1 0", "jobs", "take 2 .0 1", "jobs"]),
                         ["ok", "1 one 4; 2 one 1(2,3)", "ok", "1 one 4; 2 one 1(2,-)", "ok", "1 one 4; 2 one 4"])
        self.assertEqual(self.answers(console, ["take 1 . 0", "jobs", "lines"]), ["ok", "2 one 4", "6"])
        # Behind the both comes nothing, or the last take: nothing stands ahead of it.
        console = with_program(INSIDE, "sizes a 3 b 3", "enter one 0", "take 1 . 0", "take 1 .1 0")
        self.assertEqual(self.answers(console, ["take 1 .0 0", "jobs"]), ["ok", "-"])

    def test_stops(self):
        console = with_program(INSIDE, "sizes a 1 b 3", "enter one 0", "take 1 . 0", "enter one 0")
        self.assertEqual(self.answers(console, ["word", "stops"]), ["stuck", "one 0; one 1(2,3)"])

    def test_by_chance(self):
        for seed in range(60):
            rng = random.Random(seed)
            program = random_program(seed, most_jobs=2)
            sizes = Sizes({pool: rng.randint(1, 3) for pool in program.pools})
            console = with_program(format_program(program).replace("\n", " "), "sizes " + str(sizes))
            runtime = Runtime(program, sizes)
            if seed % 2:
                console.run("careful")
                runtime = Runtime(program, sizes, careful=True)
            for _ in range(12):
                self.check_step(console, runtime, rng)
            state = runtime.state_here
            self.assertEqual(console.run("caps"), str(caps(program)))
            self.assertEqual(console.run("ranks"), "-" if ranks(program) is None else " ".join(f"{pool} {ranks(program)[pool]}" for pool in program.pools))
            try:
                self.assertEqual(console.run("least"), "; ".join(map(str, Goods(program).least())))
                self.assertEqual(console.run("good"), "yes" if is_good(program, sizes) else "no")
                self.assertEqual(console.run("run"), "-" if is_good(program, sizes) else str(len(verdict(program, sizes)[1])))
            except TooMany:
                pass
            self.assertEqual(console.run("free"), str(state.free))
            self.assertEqual(console.run("word"), word_of(state))
            self.assertEqual(console.run("lines"), str(runtime.journal().count("\n")))
            self.assertEqual(console.run("stops"), "; ".join(f"{name} {slow_text(position)}" for name, position in fewest_stops(state)) or "-")

    def check_step(self, console, runtime, rng):
        """One request, told to both."""
        program = runtime.state_here.program
        name = rng.choice(program.names())
        first = [position for position in program.code(name).first() if position is not None]
        there = runtime.numbers()
        if first and (not there or rng.random() < 0.4):
            at = rng.randrange(len(first))
            number = runtime.enter(name, first[at])
            self.assertEqual(console.run(f"enter {name} {at}"), "-" if number is None else str(number))
        elif there:
            number = rng.choice(list(there))
            if rng.random() < 0.1:
                runtime.fail(number)
                self.assertEqual(console.run(f"fail {number}"), "ok")
            else:
                name, position = there[number]
                strand, _ = rng.choice(program.code(name).takers(position))
                later = program.code(name).after(position, strand)
                at = rng.randrange(len(later))
                told = console.run("take {} .{} {}".format(number, "".join(map(str, strand)), at))
                self.assertEqual(told, "ok" if runtime.take(number, strand, later[at]) else "wait")
        rows = [f"{number} {name} {slow_text(position)}" for number, (name, position) in runtime.numbers().items()]
        self.assertEqual(console.run("jobs"), "; ".join(rows) or "-")


class TestForms(Case):
    def test_right_words(self):
        console = with_program(CROSSED, "sizes a 1 b 1")
        for line in RIGHT:
            if line.split()[0] not in ("take", "fail"):
                self.assertIsInstance(console.run(line), str)

    def test_too_few_and_too_many(self):
        for console in (Console(), with_program(), with_program(CROSSED, "sizes a 1 b 1", "enter load 0")):
            for line in RIGHT:
                words = line.split()
                if len(words) > 1 and words[0] != "sizes":
                    for many in range(1, len(words)):
                        self.raises(InvalidCommand, " ".join(words[:many]), console.run, " ".join(words[:many]))
                for more in (line + " ", line + "  ", " " + line, line + " 0 0 0", line + "\n", "\n" + line, line + " a", line.upper(), line + "x", line + "\t", line.replace(" ", "  ", 1) if " " in line else line + ";"):
                    self.raises(InvalidCommand, more, console.run, more)
            for line in ("", " ", "  ", "\n", "x", "program", "programs " + CROSSED, "Program x", "program\n", "program pools a;\n", "sizes a", "sizes a 1 b", "sizes a 1 a 1", "sizes a 1 a 2", "sizes 1 a", "sizes a a", "sizes a -1",
                         "sizes a 01", "sizes a 00", "sizes a 1000", "sizes a 1.0", "sizes abcdefghi 1", "sizes A 1", "sizes a 1  b 1", "sizes  ", "sizes a \u0661", "sizes \u00e9 1", "enter load 00", "enter load 01",
                         "enter load -1", "enter load 1000", "enter load +1", "enter load x", "enter load 0 0", "enter Load 0", "enter loadloadx 0", "enter l1 0", "enter  0", "enter load  0", "take 1 0 0", "take 1 .2 0",
                         "take 1 0. 0", "take 1 .. 0", "take 1 .0.1 0", "take 01 . 0", "take 1 . 00", "take x . 0", "take 1  0", "take . 1 0", "take 1 . 0 ", "take 1000 . 0", "fail 01", "fail -", "fail 1000", "fail",
                         "fail 1 1", "fail .", "fail .0", "enter .0 0", "enter . 0", "enter load .", "take .1 . 0", "take 1 . .", "fail \u0661", "fail \u00b2", "good yes", "run 1", "caps a", "stops  ", "word\r", "jobs\x00"):
                self.raises(InvalidCommand, line, console.run, line)
        for thing in ANYTHING:
            self.raises(InvalidCommand, thing, Console().run, thing)
            self.raises(InvalidCommand, thing, with_program(CROSSED, "sizes").run, thing)

    def test_order_of_errors(self):
        # What has no form is told first, then that there is no program, then that there is no runtime, then all else.
        console = Console()
        for line in (*RIGHT, "enter none 0", "take 9 . 9", "fail 9", "enter load 999", "take 1 .0101010101 0"):
            self.raises(InvalidState, line, console.run, line)
        console = with_program()
        for line in (*RIGHT[1:8], *RIGHT[11:], "enter none 0", "take 9 . 9", "fail 9"):
            self.raises(InvalidState, line, console.run, line)
        for line in OF_PROGRAM:
            self.assertIsInstance(console.run(line), str)
        self.assertEqual(console.run("sizes a 1"), "ok")
        for line in OF_RUNTIME:
            self.assertIsInstance(console.run(line), str)

    def test_a_new_program_has_no_runtime(self):
        console = with_program(CROSSED, "sizes a 1 b 1", "enter load 0")
        self.assertEqual(console.run("program " + INSIDE), "ok")
        self.raises(InvalidState, "jobs", console.run, "jobs")
        self.raises(InvalidState, "careful", console.run, "careful")
        self.assertEqual(console.run("caps"), str(caps(parse(INSIDE))))

    def test_positions_that_are_none(self):
        console = with_program(INSIDE, "sizes a 3 b 3", "enter one 0")
        self.raises(NoJob, "none", console.run, "enter none 0")
        self.raises(NoJob, "pools", console.run, "enter pools 0")
        for at in (2, 3, 999):
            self.raises(NoMove, ("enter", "one", None), console.run, f"enter one {at}")
        for line, move in (("take 1 . 1", (1, (), -1)), ("take 1 . 999", (1, (), -1)), ("take 2 . 0", (2, (), -1)), ("take 0 . 0", (0, (), -1)), ("take 1 .0 0", (1, (0,), -1)), ("take 1 .01 7", (1, (0, 1), -1)),
                           ("take 1 .0000000000 0", (1, (0,) * 10, -1))):
            self.raises(NoMove, ("take", *move), console.run, line)
        for number in (0, 2, 999):
            self.raises(NoMove, ("fail", number), console.run, f"fail {number}")
        # The strand around waits at a both.
        console.run("take 1 . 0")
        self.raises(NoMove, ("take", 1, (), -1), console.run, "take 1 . 0")
        self.assertEqual((console.run("jobs"), console.run("lines")), ("1 one 1(2,3)", "2"))

    def test_what_was_there_stays(self):
        console = with_program(CROSSED, "sizes a 1 b 1", "enter load 0")
        for text, error, about in (("", InvalidText, 0), ("pools a", InvalidText, 7), ("pools  pools;", InvalidText, 7), ("x", InvalidText, 0), ("pools a;", InvalidProgram, "jobs"), ("pools a a; job b limit 1 { }", InvalidProgram, "pools"),
                                   ("pools a; job b limit 1 { give a 1; }", InvalidProgram, 0), ("pools a; job b limit 1 { }" + " " * 4000, InvalidText, 4000)):
            self.raises(error, about, console.run, "program " + text)
            self.assertEqual([console.run(line) for line in ("caps", "jobs", "free")], ["a 2 b 2", "1 load 0", "a 1 b 1"])
        # All that follows the space is the text, with more spaces, too.
        self.assertEqual(console.run("program  pools   a ;job b limit 1 {  }  "), "ok")
        for line in ("sizes a 1 a 1", "x"):
            self.raises(InvalidCommand, line, console.run, line)
        self.assertEqual(console.run("caps"), "-")

    def test_other_errors(self):
        console = with_program("pools a; job one limit 6 { " + "take a 1 { } " * 8 + "}", "sizes a 9")
        for line in ("good", "run", "least"):
            self.raises(TooMany, 2000, console.run, line)
        for _ in range(6):
            console.run("enter one 0")
        self.assertEqual(console.run("stops"), "-")
        console = with_program("pools a b; job one limit 6 { take a 1 { } } job two limit 6 { take a 1 { } } job three limit 6 { take b 9 { take b 9 { take b 9 { } } } }", "sizes")
        self.raises(TooMany, 400, console.run, "least")
        for number in range(13):
            self.assertEqual(console.run("enter {} 0".format(("one", "two", "three")[number // 6])), str(number + 1))
        self.raises(TooMany, 12, console.run, "stops")
        console.run("fail 13")
        self.assertEqual(console.run("stops"), "; ".join(["one 0"] * 6 + ["two 0"] * 6))
        self.assertEqual(console.run("lines"), "14")

    def test_two_consoles(self):
        one, other = with_program(CROSSED, "sizes a 1 b 1"), Console()
        self.raises(InvalidState, "caps", other.run, "caps")
        other.run("program " + INSIDE)
        self.assertEqual(one.run("caps"), "a 2 b 2")
