"""[24] runtimes, and [25] the journals from which they are recovered."""

import random

from leastpools.careful import is_safe
from leastpools.errors import InvalidLog, InvalidSizes, InvalidState, NoJob, NoMove
from leastpools.granting import careful_moves
from leastpools.parsing import parse
from leastpools.runtimes import Runtime, recovered
from leastpools.sizes import Sizes
from leastpools.states import State, empty_state
from tests.helpers import ANYTHING, CROSSED, ODD, Case, jobs
from tests.model import random_program

PROGRAM = parse(CROSSED)
ONE = Sizes({"a": 1, "b": 1})
PLENTY = Sizes({"a": 9, "b": 9, "c": 9})
INSIDE = jobs("take a 1 { both { take b 1 { } } and { both { take a 1 { } } and { take b 2 { } } } }", limit=2)


def some_questions(most=120):
    """Tuples (program, sizes, careful) by chance."""
    for seed in range(most):
        rng = random.Random(seed)
        program = random_program(seed)
        yield program, Sizes({pool: rng.randint(1, 4) for pool in program.pools}), seed % 2 == 1


def requests_of(runtime):
    """All requests that have an answer: tuples of a word and what is asked for."""
    program = runtime.state_here.program
    for name in program.names():
        for position in program.code(name).first():
            if position is not None:
                yield ("enter", name, position)
    for number, (name, position) in runtime.numbers().items():
        for strand, _ in program.code(name).takers(position):
            for later in program.code(name).after(position, strand):
                yield ("take", number, strand, later)
        yield ("fail", number)


def ask(runtime, request):
    return getattr(runtime, request[0])(*request[1:])


def run_by_chance(program, sizes, careful, rng, many=20):
    runtime = Runtime(program, sizes, careful=careful)
    for _ in range(many):
        some = list(requests_of(runtime))
        if some:
            ask(runtime, rng.choice(some + [one for one in some if one[0] == "take"] * 2))
    return runtime


def check_number(before, index, event):
    return (31 * before + index + sum(map(ord, event))) % 9973


def slow_text(position):
    if position is None:
        return "-"
    if isinstance(position, int):
        return str(position)
    return "{}({},{})".format(position[0], slow_text(position[1]), slow_text(position[2]))


def journal_of(events):
    """The journal of events, told as texts."""
    lines, before = [], 0
    for index, event in enumerate(events):
        before = check_number(before, index, event)
        lines.append(f"{index} {before} {event}\n")
    return "".join(lines)


def told(runtime):
    return runtime.state_here, runtime.numbers(), runtime.journal()


class TestRuntime(Case):
    def test_document(self):
        runtime = Runtime(PROGRAM, ONE, careful=True)
        done = [runtime.enter("load", 0), runtime.enter("save", 0), runtime.take(1, (), 1), runtime.take(2, (), 1)]
        self.assertEqual([done, runtime.take(1, (), None), runtime.take(2, (), 1), runtime.journal().split("\n")[0]], [[1, 2, True, False], True, True, "0 1151 enter 1 load 0"])

    def test_new(self):
        runtime = Runtime(program=PROGRAM, sizes=ONE)
        self.assertEqual(told(runtime), (empty_state(PROGRAM, ONE), {}, ""))
        self.assertRaises(TypeError, Runtime, PROGRAM, ONE, True)

    def test_limits(self):
        runtime = Runtime(PROGRAM.with_limit("save", 0), ONE)
        self.assertIsNone(runtime.enter("save", 0))
        self.assertEqual(runtime.enter("load", 0), 1)
        self.assertIsNone(runtime.enter("load", 0))
        self.assertEqual(told(runtime), (State(runtime.state_here.program, ONE, {("load", 0): 1}), {1: ("load", 0)}, journal_of(["enter 1 load 0"])))
        self.assertIs(runtime.take(1, (), 1), True)
        self.assertIsNone(runtime.enter("load", 0))
        self.assertIs(runtime.take(1, (), None), True)
        # A number is not given twice.
        self.assertEqual(runtime.enter("load", 0), 2)
        self.assertIsNone(runtime.fail(2))
        self.assertEqual(runtime.enter("load", 0), 3)
        self.assertEqual(runtime.numbers(), {3: ("load", 0)})

    def test_not_free(self):
        runtime = Runtime(PROGRAM.with_limit("load", 2), ONE)
        self.assertEqual([runtime.enter("load", 0), runtime.enter("load", 0), runtime.take(2, (), 1)], [1, 2, True])
        before = told(runtime)
        self.assertIs(runtime.take(1, (), 1), False)
        self.assertEqual(told(runtime), before)
        self.assertIsNone(runtime.fail(2))
        self.assertIs(runtime.take(1, (), 1), True)
        self.assertEqual(runtime.numbers(), {1: ("load", 1)})
        self.assertEqual(runtime.journal(), journal_of(["enter 1 load 0", "enter 2 load 0", "take 2 . 1", "fail 2", "take 1 . 1"]))

    def test_strands(self):
        runtime = Runtime(INSIDE, PLENTY)
        runtime.enter("one", 0)
        place = (1, 2, (3, 4, 5))
        self.assertIs(runtime.take(1, (), place), True)
        self.assertIs(runtime.take(1, (1, 0), (1, 2, (3, None, 5))), True)
        self.assertIs(runtime.take(1, (0,), (1, None, (3, None, 5))), True)
        self.assertEqual(runtime.numbers(), {1: ("one", (1, None, (3, None, 5)))})
        self.assertEqual(str(runtime.state_here.free), "a 8 b 9 c 9")
        runtime.fail(1)
        self.assertEqual(runtime.journal(), journal_of(["enter 1 one 0", "take 1 . 1(2,3(4,5))", "take 1 .10 1(2,3(-,5))", "take 1 .0 1(-,3(-,5))", "fail 1"]))

    def test_careful(self):
        # Held back: an enter, by a choice that may come, and a take; let through is what a plain one does.
        program = jobs("either { take a 1 { } } or { take a 2 { } }", "take b 1 { }")
        careful, plain = Runtime(program, ONE, careful=True), Runtime(program, ONE, careful=False)
        for position in (0, 1):
            self.assertIsNone(careful.enter("one", position))
        self.assertEqual([plain.enter("one", 0), plain.take(1, (), None)], [1, True])
        self.assertEqual([careful.enter("two", 0), careful.take(1, (), None)], [1, True])
        self.assertEqual(careful.journal(), journal_of(["enter 1 two 0", "take 1 . -"]))
        careful, plain = Runtime(PROGRAM, ONE, careful=True), Runtime(PROGRAM, ONE)
        for runtime in (careful, plain):
            self.assertEqual([runtime.enter("load", 0), runtime.enter("save", 0), runtime.take(2, (), 1)], [1, 2, True])
        self.assertEqual((careful.take(1, (), 1), plain.take(1, (), 1)), (False, True))
        self.assertEqual((careful.take(2, (), None), plain.take(2, (), None)), (True, False))

    def test_other_errors_come_first(self):
        # A careful runtime and a full one raise the same errors as others.
        for runtime in (Runtime(PROGRAM, Sizes({}), careful=True), Runtime(PROGRAM.with_limit("load", 0), ONE)):
            for position in (1, None, True, False, 2, -1, "0", (0, 0, 0), ODD, [], ODD):
                self.raises_move(("enter", "load", position), runtime.enter, "load", position)
            for name in [*ANYTHING, "none"]:
                if not (isinstance(name, str) and name == "load"):
                    self.raises(NoJob, name, runtime.enter, name, None)
            self.assertIsNone(runtime.enter("load", 0))

    def raises_move(self, move, call, *rest):
        """Check the error and the parts of its value, some of which cannot be compared."""
        with self.assertRaises(NoMove) as caught:
            call(*rest)
        value = caught.exception.value
        self.assertIsInstance(value, tuple)
        self.assertEqual(len(value), len(move))
        for one, other in zip(value, move):
            self.assertIs(one, other)

    def test_no_moves(self):
        runtime = Runtime(INSIDE, PLENTY)
        runtime.enter(name="one", position=0)
        runtime.enter("one", 0)
        runtime.take(number=2, strand=(), later=(1, 2, (3, 4, 5)))
        before = told(runtime)
        later = (1, None, (3, 4, 5))
        for thing in ANYTHING:
            if thing is not ANYTHING[3]:
                self.raises_move(("enter", "one", thing), runtime.enter, "one", thing)
            if thing is not ANYTHING[4]:
                self.raises_move(("take", thing, (), 1), runtime.take, thing, (), 1)
                self.raises_move(("fail", thing), runtime.fail, thing)
            self.raises_move(("take", 2, thing, later), runtime.take, 2, thing, later)
            self.raises_move(("take", 2, (0,), thing), runtime.take, 2, (0,), thing)
            self.raises_move(("take", 2, thing, ODD), runtime.take, 2, thing, ODD)
        for move in ((0, (), 1), (3, (0,), later), (True, (), (1, 2, (3, 4, 5))), (-1, (), 1), (1, (), 1), (1, (), None), (1, (), True), (1, (0,), (1, 2, (3, 4, 5))), (1, [], (1, 2, (3, 4, 5))),
                     (2, (), later), (2, (1,), later), (2, (0,), (1, 2, (3, 4, 5))), (2, (0,), None), (2, (0,), (1, None, (3, True, 5))), (2, (False,), later), (2, (0, 0), later), (2, (1, 0), later)):
            self.raises_move(("take", *move), runtime.take, *move)
        for number in (0, 3, True, -1, 10 ** 30, 1.0, "1"):
            self.raises_move(("fail", number), runtime.fail, number)
        self.assertEqual(told(runtime), before)
        runtime.fail(number=1)
        self.raises_move(("fail", 1), runtime.fail, 1)
        self.raises_move(("take", 1, (), (1, 2, (3, 4, 5))), runtime.take, 1, (), (1, 2, (3, 4, 5)))
        self.assertIs(runtime.take(2, (0,), later), True)

    def test_raises(self):
        for thing in ANYTHING:
            for careful in (False, True):
                with self.assertRaises(InvalidState) as caught:
                    Runtime(thing, None, careful=careful)
                self.assertIs(caught.exception.value, thing)
            self.raises(InvalidSizes, thing, Runtime, PROGRAM, thing)

    def test_by_chance(self):
        done = {True: 0, False: 0, None: 0}
        for program, sizes, careful in some_questions():
            rng = random.Random(9)
            runtime = Runtime(program, sizes, careful=careful)
            there, last, events = {}, 0, []
            for _ in range(20):
                some = list(requests_of(runtime))
                if not some:
                    break
                request = rng.choice(some + [one for one in some if one[0] == "take"])
                state = runtime.state_here
                answer = ask(runtime, request)
                if request[0] == "fail":
                    del there[request[1]]
                    self.assertIsNone(answer)
                    events.append(f"fail {request[1]}")
                else:
                    move = request if request[0] == "enter" else ("take", *there[request[1]], *request[2:])
                    can = move in (list(careful_moves(state)) if careful else list(state.moves()))
                    done[can] += 1
                    if request[0] == "enter":
                        self.assertEqual(answer, last + 1 if can else None)
                    else:
                        self.assertIs(answer, can)
                    if not can:
                        self.assertEqual(runtime.state_here, state)
                    elif request[0] == "enter":
                        last += 1
                        there[last] = request[1:]
                        events.append(f"enter {last} {request[1]} {slow_text(request[2])}")
                    else:
                        name, _ = there.pop(request[1])
                        if request[3] is not None:
                            there[request[1]] = (name, request[3])
                        events.append("take {} .{} {}".format(request[1], "".join(map(str, request[2])), slow_text(request[3])))
                self.assertEqual(runtime.numbers(), there)
                counts = {}
                for place in there.values():
                    counts[place] = counts.get(place, 0) + 1
                self.assertEqual(runtime.state_here, State(program, sizes, counts))
                self.assertEqual(runtime.journal(), journal_of(events))
                if careful:
                    self.assertTrue(is_safe(runtime.state_here))
        self.assertGreater(min(done[True], done[False]), 300)

    def test_results_are_new(self):
        runtime = Runtime(PROGRAM, ONE)
        runtime.enter("load", 0)
        runtime.numbers().clear()
        self.assertEqual(runtime.numbers(), {1: ("load", 0)})


class TestRecovered(Case):
    def setUp(self):
        self.runtime = Runtime(PROGRAM.with_limit("load", 2), ONE("a"))
        for call in (("enter", "load", 0), ("enter", "save", 0), ("take", 1, (), 1), ("fail", 1), ("enter", "load", 0), ("take", 2, (), 1), ("take", 3, (), 1)):
            ask(self.runtime, call)
        self.text = self.runtime.journal()

    def recovered(self, text, careful=False):
        return recovered(self.runtime.state_here.program, self.runtime.state_here.sizes, text, careful=careful)

    def check_prefix(self, text, careful=False):
        """A text of which just so many lines are right is recovered as these lines are."""
        runtime, many = self.recovered(text, careful)
        lines = self.text.split("\n")
        self.assertEqual(runtime.journal(), "".join(line + "\n" for line in lines[:many]))
        self.assertTrue(text.startswith(runtime.journal()))
        return many

    def test_whole(self):
        runtime, many = self.recovered(self.text)
        self.assertEqual((many, told(runtime)), (7, told(self.runtime)))
        self.assertEqual(recovered(program=PROGRAM, sizes=ONE, text="", careful=True)[1], 0)
        self.assertIsInstance(recovered(PROGRAM, ONE, ""), tuple)
        # Both go on alike and write the same lines.
        for one in (runtime, self.runtime):
            self.assertEqual([one.enter("load", 0), one.take(3, (), None), one.take(2, (), None), one.enter("save", 0)], [4, False, True, 5])
        self.assertEqual(told(runtime), told(self.runtime))
        self.assertEqual(self.recovered(self.runtime.journal())[1], 10)

    def test_cut(self):
        for end in range(len(self.text) + 1):
            self.assertEqual(self.check_prefix(self.text[:end]), self.text[:end].count("\n"))

    def test_one_character_otherwise(self):
        for at in range(len(self.text)):
            for sign in "0123456789 -.(),aelx\n\x00\u0661":
                if sign != self.text[at]:
                    bent = self.text[:at] + sign + self.text[at + 1:]
                    self.assertEqual(self.check_prefix(bent), self.text[:at].count("\n"))
            for bent in (self.text[:at] + self.text[at + 1:], self.text[:at] + "0" + self.text[at:], self.text[:at] + " " + self.text[at:], self.text[:at] + "\n" + self.text[at:]):
                if bent != self.text:
                    many = self.check_prefix(bent)
                    self.assertLessEqual(many, self.text[:at + 1].count("\n"))

    def test_numbers_as_they_are_written(self):
        right = journal_of(["enter 1 load 0", "take 1 . 1", "fail 1"])
        self.assertEqual(self.recovered(right)[1], 3)
        # A sign or a zero ahead is right in no number, whatever the check number is.
        for event in ("enter 01 load 0", "enter +1 load 0", "enter 1 load 00", "enter 1 load -0", "enter 1 load +0", "enter 2 load 0", "enter 0 load 0", "enter 1 load 1", "enter 1 load -", "enter 1 none 0",
                      "enter 1 load", "enter 1 load 0 ", " enter 1 load 0", "enter  1 load 0", "enter 1 load 0 0", "Enter 1 load 0", "", "enter", "fail 1", "take 1 . 1", "enter 1 load 0(0,0)", "enter one load 0",
                      "enter " + "1" * 5000 + " load 0"):
            self.assertEqual(self.recovered(journal_of([event, "fail 1"]))[1], 0)
        for event in ("take 01 . 1", "take 1 .0 1", "take 1 1", "take 1 () 1", "take 1 . 01", "take 1 . +1", "take 1 . -", "take 1 . 0", "take 2 . 1", "take 1 . 1 1", "take 1 . ", "take 1", "fail 01", "fail 2", "fail",
                      "fail 1 1", "give 1 . 1", "Take 1 . 1", "fail 1 . 1", "take 1 .", "leave 1", "fail +1", "fail -1", "fail 1 ", "take " + "9" * 5000 + " . 1", "take 1 . " + "1" * 5000):
            self.assertEqual(self.recovered(journal_of(["enter 1 load 0", event, "fail 1"]))[1], 1)
        lines = right.split("\n")
        for head in ("00 1151", "+0 1151", "0 01151", "0 +1151", "0 1152", "1 1151", "-0 1151", "0  1151", " 0 1151", "0 11124", "0 1151 "):
            self.assertEqual(self.recovered(lines[0].replace("0 1151", head, 1) + "\n")[1], 0)

    def test_events_that_are_not_possible(self):
        self.assertEqual(self.recovered(journal_of(["enter 1 load 0", "enter 2 load 0", "enter 3 load 0"]))[1], 2)
        self.assertEqual(self.recovered(journal_of(["enter 1 load 0", "take 1 . 1", "enter 2 save 0", "take 2 . 1", "take 1 . -"]))[1], 4)
        self.assertEqual(self.recovered(journal_of(["enter 1 load 0", "take 1 . 1", "take 1 . -", "fail 1"]))[1], 3)
        self.assertEqual(self.recovered(journal_of(["enter 1 load 0", "fail 1", "enter 1 load 0"]))[1], 2)
        # What a careful runtime does not let through is not possible for it.
        text = journal_of(["enter 1 load 0", "enter 2 save 0", "take 1 . 1", "take 2 . 1"])
        self.assertEqual([recovered(PROGRAM, ONE, text, careful=careful)[1] for careful in (False, True)], [4, 3])
        runtime = recovered(PROGRAM, ONE, text, careful=True)[0]
        self.assertIs(runtime.take(2, (), 1), False)
        self.assertIs(recovered(PROGRAM, ONE, text)[0].take(1, (), None), False)

    def test_strands_inside(self):
        events = ["enter 1 one 0", "take 1 . 1(2,3(4,5))", "take 1 .10 1(2,3(-,5))", "take 1 .0 1(-,3(-,5))", "take 1 .11 -"]
        runtime, many = recovered(INSIDE, PLENTY, journal_of(events))
        self.assertEqual((many, runtime.numbers(), runtime.journal()), (5, {}, journal_of(events)))
        for bent in ("take 1 .10 1(2,3(-, 5))", "take 1 .10 1(2,(3,-,5))", "take 1 .10 1(2,3(-,5)", "take 1 .1.0 1(2,3(-,5))", "take 1 10 1(2,3(-,5))", "take 1 .10 (1,2,(3,None,5))", "take 1 .01 1(2,3(-,5))"):
            self.assertEqual(recovered(INSIDE, PLENTY, journal_of(events[:2] + [bent]))[1], 2)

    def test_by_chance(self):
        for program, sizes, careful in some_questions(80):
            rng = random.Random(8)
            runtime = run_by_chance(program, sizes, careful, rng)
            text = runtime.journal()
            other, many = recovered(program, sizes, text, careful=careful)
            self.assertEqual((many, told(other)), (text.count("\n"), told(runtime)))
            for _ in range(10):
                some = list(requests_of(runtime))
                if some:
                    request = rng.choice(some)
                    self.assertEqual(ask(other, request), ask(runtime, request))
                    self.assertEqual(told(other), told(runtime))
            end = rng.randint(0, len(text))
            self.assertEqual(recovered(program, sizes, text[:end], careful=careful)[1], text[:end].count("\n"))

    def test_raises(self):
        for thing in ANYTHING:
            if not isinstance(thing, str):
                self.raises(InvalidLog, thing, recovered, PROGRAM, ONE, thing)
                # The text comes first.
                self.raises(InvalidLog, thing, recovered, None, None, thing)
            self.raises(InvalidState, thing, recovered, thing, None, "")
            self.raises(InvalidSizes, thing, recovered, PROGRAM, thing, "")
        for text in ("\n", "\n\n", "x", "x\n", " \n", "0\n", "0 0\n", "0 0 \n", "0 1151 enter 1 load 0", "0 1151 enter 1 load 0\r\n", "0 1151 enter 1 load 0\x0b\n"):
            self.assertEqual(recovered(PROGRAM, ONE, text)[1], 0)
