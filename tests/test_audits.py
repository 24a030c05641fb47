"""[31] audits: requests, transcripts, and journals that are held against one another."""

import random

from leastpools.audits import answer_to, due_answers, first_wrong, lost_lines, strays
from leastpools.errors import InvalidLog, InvalidSizes, InvalidState
from leastpools.parsing import parse
from leastpools.runtimes import Runtime, recovered
from leastpools.sizes import Sizes
from tests.helpers import ANYTHING, CROSSED, ODD, Case
from tests.test_runtimes import INSIDE, PLENTY, ask, journal_of, requests_of, run_by_chance, some_questions, told

PROGRAM = parse(CROSSED)
ONE = Sizes({"a": 1, "b": 1})
REQUESTS = [("enter", "load", 0), ("enter", "save", 0), ("take", 1, (), 1), ("take", 2, (), 1), ("enter", "load", 0), ("take", 3, (), 1), ("fail", 2), ("take", 1, (), None), ("enter", "load", 0)]
PLAIN = [1, 2, True, True, None, "none", None, True, 3]
CAREFUL = [1, 2, True, False, None, "none", None, True, 3]
EVENTS = ["enter 1 load 0", "enter 2 save 0", "take 1 . 1", "fail 2", "take 1 . -"]


class TestAnswers(Case):
    def test_answer_to(self):
        runtime = Runtime(PROGRAM, ONE)
        for request, answer in zip(REQUESTS, PLAIN):
            given = answer_to(runtime, request)
            self.assertEqual((given, type(given)), (answer, type(answer)))
        self.assertEqual(answer_to(runtime=runtime, request=("take", 3, (), 1)), True)

    def test_requests_of_no_form(self):
        runtime = Runtime(PROGRAM, ONE)
        runtime.enter("load", 0)
        before = told(runtime)
        others = [("enter", "load"), ("enter", "load", 0, 0), ["enter", "save", 0], ("take", 1, ()), ("take", 1, (), 1, 1), ("take", "load", 0, (), 1), ("fail",), ("fail", 1, 1), ["fail", 1], ("enter", "none", 0),
                  ("enter", "save", 1), ("enter", "save", None), ("enter", "save", False), ("take", 2, (), 1), ("take", True, (), 1), ("take", 1, (), True), ("take", 1, [], 1), ("take", 1, (0,), 1), ("take", 1, (), None),
                  ("fail", 2), ("fail", True), ("fail", ODD), ("take", ODD, ODD, ODD), ("take", 1, (), ODD), ("enter", "save", ODD), ("Enter", "save", 0), ("leave", 1), (ODD, 1), ("fail", None), "fail", ("fail", "1")]
        for thing in [*ANYTHING, *others]:
            self.assertEqual(answer_to(runtime, thing), "none")
            self.assertEqual(told(runtime), before)

    def test_due_answers(self):
        self.assertEqual(due_answers(PROGRAM, ONE, REQUESTS), PLAIN)
        self.assertEqual(due_answers(PROGRAM, ONE, REQUESTS, careful=True), CAREFUL)
        self.assertEqual(due_answers(program=PROGRAM, sizes=ONE, requests=[], careful=False), [])
        self.assertEqual(due_answers(PROGRAM, ONE, [ODD, None, *REQUESTS[:2]]), ["none", "none", 1, 2])
        due_answers(PROGRAM, ONE, REQUESTS).clear()
        self.assertEqual(len(REQUESTS), 9)

    def test_raises(self):
        for call in (due_answers, first_wrong, lost_lines):
            for thing in [*ANYTHING, (), tuple(REQUESTS)]:
                if not isinstance(thing, list):
                    self.raises(InvalidLog, thing, call, PROGRAM, ONE, thing)
                self.raises(InvalidState, thing, call, thing, None, ODD)
                self.raises(InvalidSizes, thing, call, PROGRAM, thing, ODD)
        self.assertRaises(TypeError, due_answers, PROGRAM, ONE, [], True)
        self.assertRaises(TypeError, first_wrong, PROGRAM, ONE, [], True)

    def test_by_chance(self):
        for program, sizes, careful in some_questions(60):
            rng = random.Random(4)
            runtime, other = Runtime(program, sizes, careful=careful), Runtime(program, sizes, careful=careful)
            requests, answers = [], []
            for _ in range(15):
                some = list(requests_of(runtime)) + [("fail", 99), ("enter", "none", 0), ("take", 1, (1, 1), 0)]
                requests.append(rng.choice(some))
                answers.append(answer_to(runtime, requests[-1]))
                if requests[-1] in some[:-3]:
                    self.assertEqual(ask(other, requests[-1]), answers[-1])
                else:
                    self.assertEqual(answers[-1], "none")
            self.assertEqual(due_answers(program, sizes, requests, careful=careful), answers)
            self.assertEqual([str(one) for one in answers], [str(one) for one in due_answers(program, sizes, requests, careful=careful)])
            transcript = list(zip(requests, answers))
            self.assertIsNone(first_wrong(program, sizes, transcript, careful=careful))
            at = rng.randrange(15)
            bent = transcript[:at] + [(requests[at], "wrong")] + transcript[at + 1:]
            self.assertEqual(first_wrong(program, sizes, bent, careful=careful), at)


class TestFirstWrong(Case):
    def test_right(self):
        self.assertIsNone(first_wrong(PROGRAM, ONE, list(zip(REQUESTS, PLAIN))))
        self.assertIsNone(first_wrong(program=PROGRAM, sizes=ONE, transcript=list(zip(REQUESTS, CAREFUL)), careful=True))
        self.assertEqual(first_wrong(PROGRAM, ONE, list(zip(REQUESTS, CAREFUL))), 3)
        self.assertEqual(first_wrong(PROGRAM, ONE, list(zip(REQUESTS, PLAIN)), careful=True), 3)
        self.assertIsNone(first_wrong(PROGRAM, ONE, []))
        self.assertIsNone(first_wrong(PROGRAM, ONE, [(ODD, "none"), (None, "none")]))

    def test_kinds_of_answers(self):
        for at, answer in enumerate(PLAIN):
            for other in (True, False, None, 0, 1, 2, 3, "none", "1", "True", (), [], {}, 1.5, -1):
                transcript = list(zip(REQUESTS, PLAIN))
                transcript[at] = (REQUESTS[at], other)
                same = type(other) is type(answer) and other == answer
                self.assertEqual(first_wrong(PROGRAM, ONE, transcript), None if same else at)
        # True and 1, False and 0 are different answers, 1 and 1.0 are not.
        self.assertEqual(first_wrong(PROGRAM, ONE, [(REQUESTS[0], True)]), 0)
        self.assertIsNone(first_wrong(PROGRAM, ONE, [(REQUESTS[0], 1.0)]))
        self.assertEqual(first_wrong(PROGRAM, ONE, [(REQUESTS[0], 1), (REQUESTS[2], 1)]), 1)
        self.assertEqual(first_wrong(PROGRAM, ONE, [(REQUESTS[0], 1), (REQUESTS[2], 1.0)]), 1)
        self.assertEqual(first_wrong(PROGRAM, Sizes({}), [(REQUESTS[0], 1), (REQUESTS[2], 0)]), 1)
        self.assertIsNone(first_wrong(PROGRAM, Sizes({}), [(REQUESTS[0], 1), (REQUESTS[2], False)]))
        self.assertEqual(first_wrong(PROGRAM, ONE, [(REQUESTS[0], 1), (REQUESTS[0], 0)]), 1)
        self.assertEqual(first_wrong(PROGRAM, ONE, [(REQUESTS[0], 1), (REQUESTS[0], False)]), 1)

    def test_transcripts_of_other_forms(self):
        right = (REQUESTS[0], 1)
        for rows in ([right, None], [right, list(right)], [right, right[:1]], [right, (*right, 1)], [right, ()], [right, ODD], [right, "ab"], [ODD], [right, {1: 2, 3: 4}]):
            self.raises(InvalidLog, rows, first_wrong, PROGRAM, ONE, rows)
        # The form of the whole comes first.
        rows = [(REQUESTS[0], 7), None]
        self.raises(InvalidLog, rows, first_wrong, PROGRAM, ONE, rows)


class TestLostLines(Case):
    def lost(self, *texts, careful=False):
        return lost_lines(PROGRAM, ONE, list(texts), careful=careful)

    def test_nothing(self):
        self.assertEqual(self.lost(), ("right", []))
        self.assertEqual(lost_lines(program=PROGRAM, sizes=ONE, texts=[""], careful=True), ("right", []))
        self.assertEqual(self.lost("", ""), ("right", [0]))
        text = journal_of(EVENTS)
        self.assertEqual(self.lost(text), ("right", []))
        self.assertEqual(self.lost(text, text), ("right", [0]))

    def test_lines_that_are_lost(self):
        text = journal_of(EVENTS)
        other = journal_of(EVENTS[:3] + ["fail 1"])
        self.assertEqual(self.lost(text, other), ("right", [2]))
        self.assertEqual(self.lost(other, text), ("right", [1]))
        self.assertEqual(self.lost("", text, other, text), ("right", [0, 2, 1]))
        self.assertEqual(self.lost(text, "", text), ("right", [5, 0]))
        self.assertEqual(self.lost(journal_of(EVENTS[:2]), text), ("right", [0]))
        # Only the first lines count, whatever stands behind them.
        one, two = journal_of(["enter 1 load 0", "fail 1", "enter 2 load 0"]), journal_of(["enter 1 save 0", "fail 1", "enter 2 load 0"])
        self.assertEqual(self.lost(one, two), ("right", [3]))

    def test_behind_the_last_line_feed(self):
        text = journal_of(EVENTS)
        for more in ("5", "5 1", "x", text, "5 0 enter 3 load 0"):
            if not more.endswith("\n"):
                self.assertEqual(self.lost(text + more), ("right", []))
                self.assertEqual(self.lost(text + more, text), ("right", [0]))
                self.assertEqual(self.lost(text + more, text[:-1]), ("right", [1]))
        self.assertEqual(self.lost(text[:-1]), ("right", []))

    def test_wrong(self):
        text = journal_of(EVENTS)
        lines = [line + "\n" for line in text.split("\n")[:-1]]
        for at in range(len(lines)):
            if at + 1 < len(lines):
                self.assertEqual(self.lost(text, "".join(lines[:at] + lines[at + 1:])), ("wrong", 1, at))
            self.assertEqual(self.lost("".join(lines[:at + 1] + lines[at:]), text), ("wrong", 0, at + 1))
            self.assertEqual(self.lost("", text, "".join(lines[:at] + ["x\n"] + lines[at:]), "x\n"), ("wrong", 2, at))
        self.assertEqual(self.lost(text + "\n"), ("wrong", 0, 5))
        self.assertEqual(self.lost(text, text + "x\n", "x\n"), ("wrong", 1, 5))
        self.assertIsInstance(self.lost("x\n"), tuple)
        # What a careful runtime does not do is wrong for it.
        text = journal_of(["enter 1 load 0", "enter 2 save 0", "take 1 . 1", "take 2 . 1"])
        self.assertEqual((self.lost(text), self.lost(text, careful=True)), (("right", []), ("wrong", 0, 3)))

    def test_by_chance(self):
        for program, sizes, careful in some_questions(60):
            rng = random.Random(7)
            runtime = run_by_chance(program, sizes, careful, rng)
            texts, lost = [runtime.journal()], []
            for _ in range(3):
                # Read at a crash, of which a part is written.
                text = texts[-1][:rng.randint(0, len(texts[-1]))]
                other, many = recovered(program, sizes, text, careful=careful)
                for _ in range(rng.randint(0, 4)):
                    some = list(requests_of(other))
                    if some:
                        ask(other, rng.choice(some))
                texts.append(other.journal())
                same = 0
                one, two = texts[-2].split("\n")[:-1], texts[-1].split("\n")[:-1]
                while same < min(len(one), len(two)) and one[same] == two[same]:
                    same += 1
                self.assertGreaterEqual(same, many)
                lost.append(len(one) - same)
            self.assertEqual(lost_lines(program, sizes, texts, careful=careful), ("right", lost))

    def test_raises(self):
        text = journal_of(EVENTS)
        for rows in ([text, None], [ODD], [text, b"a"], [[text]], [text, 1]):
            self.raises(InvalidLog, rows, lost_lines, PROGRAM, ONE, rows)
        # The form of the whole comes first.
        rows = ["x\n", None]
        self.raises(InvalidLog, rows, lost_lines, PROGRAM, ONE, rows)
        for thing in ANYTHING:
            rows = [text, thing]
            if not isinstance(thing, str):
                self.raises(InvalidLog, rows, lost_lines, PROGRAM, ONE, rows)
            self.raises(InvalidState, thing, lost_lines, thing, None, None)
            self.raises(InvalidSizes, thing, lost_lines, PROGRAM, thing, None)


class TestStrays(Case):
    def test_crossed(self):
        one = journal_of(EVENTS[:2])
        for other, rows in ((one, []), (journal_of(EVENTS[:1]), [(2, ("save", 0), None)]), (journal_of(EVENTS[:3]), [(1, ("load", 0), ("load", 1))]), ("", [(1, ("load", 0), None), (2, ("save", 0), None)]),
                            (journal_of(EVENTS), [(1, ("load", 0), None), (2, ("save", 0), None)]), (journal_of(EVENTS[:4]), [(1, ("load", 0), ("load", 1)), (2, ("save", 0), None)]),
                            (journal_of(["enter 1 save 0", "enter 2 load 0"]), [(1, ("load", 0), ("save", 0)), (2, ("save", 0), ("load", 0))])):
            self.assertEqual(strays(PROGRAM, ONE, one, other), rows)
            self.assertEqual(strays(program=PROGRAM, sizes=ONE, one=other, other=one, careful=False), [(number, there, here) for number, here, there in rows])

    def test_read_as_recovered(self):
        # What is not right and what stands behind the last line feed are not read.
        one = journal_of(EVENTS[:2])
        self.assertEqual(strays(PROGRAM, ONE, one + "x\n" + one, one + "2 1"), [])
        self.assertEqual(strays(PROGRAM, ONE, "x\n" + one, one), [(1, None, ("load", 0)), (2, None, ("save", 0))])
        text = journal_of(["enter 1 load 0", "enter 2 save 0", "take 1 . 1", "take 2 . 1"])
        self.assertEqual(strays(PROGRAM, ONE, text, one), [(1, ("load", 1), ("load", 0)), (2, ("save", 1), ("save", 0))])
        self.assertEqual(strays(PROGRAM, ONE, text, one, careful=True), [(1, ("load", 1), ("load", 0))])

    def test_ten_and_more(self):
        # Numbers are not ordered as texts, and strands inside are told as positions.
        events = [event for number in range(1, 10) for event in (f"enter {number} one 0", f"fail {number}")]
        one = journal_of(events + ["enter 10 one 0", "enter 11 one 0", "take 11 . 1(2,3(4,5))"])
        self.assertEqual(strays(INSIDE, PLENTY, journal_of(events[:-1]), one), [(9, ("one", 0), None), (10, None, ("one", 0)), (11, None, ("one", (1, 2, (3, 4, 5))))])

    def test_by_chance(self):
        for program, sizes, careful in some_questions(50):
            rng = random.Random(2)
            one, other = [run_by_chance(program, sizes, careful, rng, many).journal() for many in (10, 20)]
            here, there = [recovered(program, sizes, text, careful=careful)[0].numbers() for text in (one, other)]
            rows = [(number, here.get(number), there.get(number)) for number in sorted({*here, *there}) if here.get(number) != there.get(number)]
            self.assertEqual(strays(program, sizes, one, other, careful=careful), rows)

    def test_raises(self):
        for thing in ANYTHING:
            if not isinstance(thing, str):
                for rest in ((thing, None), ("", thing)):
                    with self.assertRaises(InvalidLog) as caught:
                        strays(PROGRAM, ONE, *rest)
                    self.assertIsInstance(caught.exception.value, list)
                    self.assertEqual(len(caught.exception.value), 1)
                    self.assertIs(caught.exception.value[0], thing)
            self.raises(InvalidState, thing, strays, thing, None, None, None)
            self.raises(InvalidSizes, thing, strays, PROGRAM, thing, None, None)
