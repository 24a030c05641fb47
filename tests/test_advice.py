"""[20] advice, and guarantee (f) of [4] for edits."""

import random

from leastpools.advice import advice, advice_paper, lets_advice
from leastpools.edits import edited, edited_by, edits
from leastpools.errors import InvalidEdit, InvalidProgram, InvalidSizes, TooMany
from leastpools.parsing import parse
from leastpools.sizes import Sizes
from leastpools.verdicts import is_good, verdict
from tests.helpers import ANYTHING, CROSSED, ODD, Case, jobs
from tests.model import random_program

PROGRAM = parse(CROSSED)
ONE = Sizes({"a": 1, "b": 1})
TWO = Sizes({"a": 2, "b": 1})
JOIN = ("join", "load", (0,))
# Each of the two jobs gets stuck alone, and each with the other one.
BOTH = parse("pools a b c; job load limit 2 { take a 1 { take a 1 { } } } job save limit 2 { take b 1 { take b 1 { } } }")


def lists_of(program, most):
    """Tuples (list of edits, program behind it) of all lists of so many edits or fewer, the shorter ones first."""
    found = [([], program)]
    for some, one in found:
        yield some, one
        if len(some) < most:
            found.extend(([*some, edit], edited(one, edit)) for edit in edits(one))


def slow_advice(program, sizes, most):
    for some, one in lists_of(program, most):
        if is_good(one, sizes):
            return some
    return None


def some_programs():
    """Tuples (program, sizes) by chance with few edits."""
    for seed in range(200):
        rng = random.Random(seed)
        program = random_program(seed, most_jobs=2)
        sizes = Sizes({pool: rng.randint(1, 3) for pool in program.pools})
        if all(len(program.code(name).positions()) < 9 for name in program.names()) and len(list(edits(program))) < 9:
            yield program, sizes


class TestAdvice(Case):
    def test_nothing_is_needed(self):
        for most in (0, 1, 2):
            self.assertEqual(advice(PROGRAM, TWO, most), [])
        self.assertEqual(advice(jobs("run;"), Sizes({})), [])

    def test_one_edit(self):
        self.assertIsNone(advice(PROGRAM, ONE, 0))
        for told in (advice(PROGRAM, ONE), advice(PROGRAM, ONE, 1), advice(PROGRAM, ONE, 2), advice(program=PROGRAM, sizes=ONE, most=1)):
            self.assertEqual(told, [JOIN])

    def test_the_first_one(self):
        # The first edit of the first job does not help, the last one does.
        program = jobs("take a 1 { take b 1 { } run; }", "take b 1 { take a 1 { } }")
        self.assertEqual(list(edits(program)), [("early", "one", (0,), "a")] + [(word, "two", (0,)) for word in ("join", "swap", "part")] + [("early", "two", (0,), "b")])
        self.assertEqual([is_good(edited(program, edit), ONE) for edit in edits(program)], [False, True, True, True, True])
        self.assertEqual(advice(program, ONE), [("join", "two", (0,))])
        program = jobs("take a 1 { take a 1 { } }", limit=2)
        self.assertEqual(advice(program, Sizes({"a": 2})), [("fewer", "one")])
        self.assertEqual(advice(program, Sizes({"a": 1})), [("part", "one", (0,))])

    def test_two_edits(self):
        sizes = Sizes({"a": 2, "b": 2})
        self.assertIsNone(advice(BOTH, sizes))
        self.assertIsNone(advice(BOTH, sizes, 1))
        self.assertEqual(advice(BOTH, sizes, 2), [("fewer", "load"), ("fewer", "save")])
        self.assertEqual(advice(BOTH, Sizes({"a": 1, "b": 2}), 2), [("part", "load", (0,)), ("fewer", "save")])
        self.assertEqual(advice(BOTH, Sizes({"a": 2, "b": 1}), 2), [("fewer", "load"), ("part", "save", (0,))])

    def test_nothing_helps(self):
        for most in (0, 1, 2):
            self.assertIsNone(advice(PROGRAM, Sizes({}), most))
            self.assertIsNone(advice(jobs("take a 1 { }"), Sizes({"b": 1, "z": 9}), most))

    def test_by_chance(self):
        lengths = []
        for program, sizes in some_programs():
            try:
                told = [advice(program, sizes, most) for most in (0, 1, 2)]
                slow = [slow_advice(program, sizes, most) for most in (0, 1, 2)]
            except TooMany:
                continue
            self.assertEqual(told, slow)
            lengths.append(None if told[2] is None else len(told[2]))
        self.assertGreater(min(lengths.count(0), lengths.count(None)), 10)
        self.assertGreater(min(lengths.count(1), 2 * lengths.count(2)), 1)

    def test_too_many(self):
        # More than 2000 states with a limit of 6, fewer with 5.
        program = jobs("take a 1 { } " * 5 + "take a 1 { take a 1 { } }", "take b 1 { take b 1 { } }").with_limit("one", 6)
        sizes = Sizes({"a": 9, "b": 1})
        self.raises(TooMany, 2000, is_good, program, sizes)
        for call in (advice, advice_paper):
            for most in (0, 1, 2):
                self.raises(TooMany, 2000, call, program, sizes, most)
        for thing in (None, ("none", []), ("advice", [], [], [])):
            self.assertIs(lets_advice(program, sizes, 2, thing), False)

    def test_too_many_only_where_it_looks(self):
        # One job alone is inside the block of a; with the takes apart there are many more states.
        big = "job big limit 3 { take a 1 { take b 1 { " + "take c 1 { } " * 22 + "} } }"
        small = "job small limit 1 { take d 1 { take d 1 { } } }"
        sizes = Sizes({"a": 1, "b": 9, "c": 9, "d": 1})
        first, last = parse(f"pools a b c d; {small} {big}"), parse(f"pools a b c d; {big} {small}")
        self.raises(TooMany, 2000, is_good, edited(first, ("part", "big", (0,))), sizes)
        # What comes behind the first edit that helps is not looked at, what stands ahead of it is.
        self.assertEqual(advice(first, sizes), [("part", "small", (0,))])
        self.assertEqual(advice_paper(first, sizes)[0], "advice")
        self.raises(TooMany, 2000, advice, last, sizes)
        self.raises(TooMany, 2000, advice_paper, last, sizes)
        self.assertIsNone(advice(last, sizes, 0))
        # The checker looks at runs and tables only.
        self.assertIs(lets_advice(first, sizes, 1, advice_paper(first, sizes)), True)

    def test_raises(self):
        for thing in ANYTHING:
            for call in (advice, advice_paper):
                self.raises(InvalidProgram, thing, call, thing, None, None)
                self.raises(InvalidSizes, thing, call, PROGRAM, thing, None)
                if not (type(thing) is int and thing in (0, 1, 2)):
                    self.raises(InvalidEdit, thing, call, PROGRAM, ONE, thing)
            self.raises(InvalidProgram, thing, lets_advice, thing, None, None, None)
            self.raises(InvalidSizes, thing, lets_advice, PROGRAM, thing, None, None)
            if not (type(thing) is int and thing in (0, 1, 2)):
                self.raises(InvalidEdit, thing, lets_advice, PROGRAM, ONE, thing, None)
        for most in (3, -1, True, False, 1.0):
            self.raises(InvalidEdit, most, advice, PROGRAM, ONE, most)
            self.raises(InvalidEdit, most, lets_advice, PROGRAM, ONE, most, ODD)

    def test_results_are_new(self):
        advice(PROGRAM, ONE).clear()
        self.assertEqual(advice(PROGRAM, ONE), [JOIN])
        for part in advice_paper(PROGRAM, ONE)[1:]:
            part.clear()
        self.assertIs(lets_advice(PROGRAM, ONE, 1, advice_paper(PROGRAM, ONE)), True)


class TestPapers(Case):
    def test_nothing_is_needed(self):
        self.assertEqual(advice_paper(PROGRAM, TWO), ("advice", [], verdict(PROGRAM, TWO)[1], []))
        for most in (0, 1, 2):
            self.assertIs(lets_advice(PROGRAM, TWO, most, advice_paper(PROGRAM, TWO, most)), True)

    def test_one_edit(self):
        told = advice_paper(PROGRAM, ONE)
        self.assertEqual(told, ("advice", [JOIN], verdict(edited(PROGRAM, JOIN), ONE)[1], [([], verdict(PROGRAM, ONE)[1])]))
        self.assertEqual([lets_advice(PROGRAM, ONE, most, told) for most in (0, 1, 2)], [False, True, True])

    def test_none(self):
        told = advice_paper(PROGRAM, ONE, 0)
        self.assertEqual(told, ("none", [([], verdict(PROGRAM, ONE)[1])]))
        self.assertEqual([lets_advice(PROGRAM, ONE, most, told) for most in (0, 1, 2)], [True, False, False])
        told = advice_paper(PROGRAM, Sizes({}), 2)
        self.assertEqual((told[0], [some for some, _ in told[1]]), ("none", [some for some, _ in lists_of(PROGRAM, 2)]))
        self.assertEqual([lets_advice(PROGRAM, Sizes({}), most, told) for most in (0, 1, 2)], [True, True, True])

    def test_two_edits(self):
        sizes = Sizes({"a": 2, "b": 2})
        told = advice_paper(BOTH, sizes, 2)
        self.assertEqual((told[0], told[1], len(told[3])), ("advice", [("fewer", "load"), ("fewer", "save")], 1 + len(list(edits(BOTH)))))
        self.assertEqual([lets_advice(BOTH, sizes, most, told) for most in (0, 1, 2)], [False, False, True])
        self.assertEqual(advice_paper(BOTH, sizes)[0], "none")

    def test_by_chance(self):
        many = 0
        for program, sizes in some_programs():
            try:
                papers = [advice_paper(program, sizes, most) for most in (0, 1, 2)]
            except TooMany:
                continue
            for most, told in enumerate(papers):
                found = advice(program, sizes, most)
                self.assertEqual(told[0], "none" if found is None else "advice")
                self.assertIs(lets_advice(program, sizes, most, told), True)
                if found is not None:
                    self.assertEqual(told[1], found)
                tried = told[-1]
                many += len(tried)
                if len(tried) < 12:
                    for at in range(len(tried)):
                        self.assertIs(lets_advice(program, sizes, most, (*told[:-1], tried[:at] + tried[at + 1:])), False)
        self.assertGreater(many, 300)

    def test_rows_of_tried(self):
        sizes = Sizes({"a": 2, "b": 2})
        word, some, rows, tried = advice_paper(BOTH, sizes, 2)
        def lets(tried, some=some, rows=rows):
            return lets_advice(BOTH, sizes, 2, ("advice", some, rows, tried))
        self.assertIs(lets(tried), True)
        self.assertIs(lets(tried[::-1] + tried), True)
        # Further rows, also of more edits; not one that is no run to a stuck strand.
        further = [("part", "load", (0,)), ("early", "load", (0,), "a")]
        self.raises(InvalidEdit, further[1], edited_by, BOTH, further)
        further = [("fewer", "load"), ("swap", "save", (0,)), ("swap", "save", (0,))]
        moves = verdict(edited_by(BOTH, further), sizes)[1]
        self.assertIs(lets(tried + [(further, moves)]), True)
        self.assertIs(lets([(further, moves)] + tried), True)
        self.assertIs(lets(tried + [(further + [("fewer", "save")], moves)]), False)
        self.assertIs(lets(tried + [(further[:1] + further[:1], moves)]), False)
        self.assertIs(lets(tried + [(some, moves)]), False)
        for at, (before, moves) in enumerate(tried):
            for one in ((before, moves[:-1]), (before, tuple(moves)), (tuple(before), moves), [before, moves], (before,), (before, moves, 1), (before, []), ODD,
                        (before, ODD), (ODD, moves), ([ODD], moves), ([*before, ODD], moves), ([*before, None], moves), (before, verdict(BOTH, TWO | sizes)[1:])):
                self.assertIs(lets(tried[:at] + [one] + tried[at + 1:]), False)
                self.assertIs(lets(tried + [one]), False)
            if before and len(before[0]) > 2:
                bent = [(*before[0][:2], tuple(bool(part) for part in before[0][2]), *before[0][3:])]
                self.assertIs(lets(tried[:at] + [(bent, moves)] + tried[at + 1:]), False)
        for thing in [*ANYTHING, tuple(tried), {}]:
            self.assertIs(lets(thing), False)
            self.assertIs(lets(tried + [thing]), False)

    def test_other_parts(self):
        sizes = Sizes({"a": 2, "b": 2})
        word, some, rows, tried = advice_paper(BOTH, sizes, 2)
        def lets(*thing, most=2):
            return lets_advice(BOTH, sizes, most, thing)
        self.assertIs(lets(word, some, rows, tried), True)
        # Of several lists any one is right.
        for other in ([("fewer", "save"), ("fewer", "load")], [("join", "load", (0,)), ("part", "save", (0,))]):
            self.assertIs(lets(word, other, verdict(edited_by(BOTH, other), sizes)[1], tried), True)
        # More edits than are needed, or than are asked for.
        more = [*some, ("swap", "load", (0,))]
        self.assertIs(lets(word, more, verdict(edited_by(BOTH, more), sizes)[1], tried), False)
        self.assertIs(lets(word, some, rows, tried, most=1), False)
        needless = [("fewer", "load")]
        self.assertIs(lets_advice(BOTH.with_limit("save", 1), Sizes({"a": 3, "b": 2}), 1,
                                  (word, needless, verdict(edited_by(BOTH.with_limit("save", 1), needless), Sizes({"a": 3, "b": 2}))[1], [])), False)
        for other in (some[:1], some[1:], [], tuple(some), [*some, *some], [some[0], some[0]], [list(edit) for edit in some], ODD, [ODD, ODD], [some[0], ODD], None):
            self.assertIs(lets(word, other, rows, tried), False)
        for other in (rows[1:], rows[:-1], tuple(rows), [], ODD, [*rows, ODD], None, tried):
            self.assertIs(lets(word, some, other, tried), False)
        for other in ("Advice", "none", "good", "", None, ODD, b"advice"):
            self.assertIs(lets(other, some, rows, tried), False)
        self.assertIs(lets_advice(BOTH, sizes, 2, [word, some, rows, tried]), False)
        self.assertIs(lets(word, some, rows), False)
        self.assertIs(lets(word, some, rows, tried, tried), False)
        self.assertIs(lets("none", tried), False)
        self.assertIs(lets("none", tried, most=1), True)
        self.assertIs(lets("none", tried, [], most=1), False)
        self.assertIs(lets("none", most=1), False)
        for thing in ANYTHING:
            self.assertIs(lets_advice(BOTH, sizes, 2, thing), False)
            self.assertIs(lets_advice(BOTH, sizes, 0, ("none", thing)), False)

    def test_other_programs(self):
        told = advice_paper(PROGRAM, ONE)
        self.assertIs(lets_advice(PROGRAM, ONE("z"), 1, told), True)
        self.assertIs(lets_advice(PROGRAM, TWO, 1, told), False)
        self.assertIs(lets_advice(PROGRAM.with_limit("load", 2), ONE, 1, told), False)
        self.assertIs(lets_advice(program=PROGRAM, sizes=ONE, most=1, thing=told), True)
