"""[26] papers and reports, and guarantees (b) and (d) of [4] for them."""

import random

from leastpools.careful import lone_need
from leastpools.errors import InvalidPaper, InvalidSizes, TooMany
from leastpools.grids import Goods, caps
from leastpools.limits import limits_paper
from leastpools.papers import floor_of, good_by_report, lets_paper, lets_report, paper_of_limits, report
from leastpools.parsing import parse
from leastpools.ranks import ranks
from leastpools.sizes import Sizes, are_amounts
from leastpools.verdicts import is_good, lets_verdict, verdict
from tests.helpers import ANYTHING, CROSSED, ODD, Case, jobs
from tests.model import random_program

PROGRAM = parse(CROSSED)
ONE = Sizes({"a": 1, "b": 1})
RANKED = jobs("take a 2 { take b 1 { } }", "take b 2 { }")
STUCK = ("verdict", {"a": 1, "b": 1}, verdict(PROGRAM, ONE))
GOOD = ("verdict", {"a": 2, "b": 1}, verdict(PROGRAM, Sizes({"a": 2, "b": 1})))
LIMITS = ("limits", {"a": 1, "b": 1}, limits_paper(PROGRAM, ONE))
RANKS = ("ranks", {"a": 0, "b": 1})
LARGE = parse("pools a; job one limit 6 { " + "take a 1 { } " * 8 + "}")
WIDE = jobs("take a 9 { take b 9 { take b 9 { } } }", limit=6)


def some_programs(most=80, largest=60):
    """Tuples (program, Goods) by chance with a small grid."""
    for seed in range(most):
        program = random_program(seed, most_jobs=2)
        try:
            goods = Goods(program)
        except TooMany:
            continue
        if len(list(goods.grid())) <= largest:
            yield program, goods


class TestLetsPaper(Case):
    def test_verdicts(self):
        for paper in (STUCK, GOOD):
            self.assertIs(lets_paper(PROGRAM, paper), True)
            self.assertIs(lets_paper(program=PROGRAM, thing=paper), True)
            word, amounts, told = paper
            # Amounts of 0, and of pools that the program does not have; the order of keys means nothing.
            for more in ({**amounts, "c": 0}, {"z": 7, **amounts}, dict(reversed(list(amounts.items())))):
                self.assertIs(lets_paper(PROGRAM, (word, more, told)), True)
            for other in ({"a": 1}, {"b": 1}, {}, {**amounts, "a": 3 - amounts["a"]}):
                self.assertIs(lets_paper(PROGRAM, (word, other, told)), lets_verdict(PROGRAM, Sizes(other), told))
            self.assertIs(lets_paper(jobs("take z 9 { }", pools="z"), paper), False)
        self.assertIs(lets_paper(PROGRAM, ("verdict", {"b": 1}, ("stuck", [("enter", "load", 0)]))), True)
        self.assertIs(lets_paper(PROGRAM, ("verdict", {"b": 1, "a": 0}, ("stuck", [("enter", "load", 0)]))), True)

    def test_bent_verdicts(self):
        word, amounts, (_, rows) = GOOD
        for at in range(len(rows)):
            self.assertIs(lets_paper(PROGRAM, (word, amounts, ("good", rows[:at] + rows[at + 1:]))), False)
            self.assertIs(lets_paper(PROGRAM, (word, amounts, ("good", rows + rows[at:]))), True)
        self.assertIs(lets_paper(PROGRAM, (word, amounts, ("good", rows[:-1] + [(rows[-1][0], rows[-1][1][::-1])]))), False)
        _, moves = STUCK[2]
        for at in range(len(moves)):
            self.assertIs(lets_paper(PROGRAM, ("verdict", STUCK[1], ("stuck", moves[:at] + moves[at + 1:]))), False)

    def test_limits(self):
        self.assertIs(lets_paper(PROGRAM, LIMITS), True)
        _, amounts, (good, bad) = LIMITS
        for paper in (("limits", amounts, (good[1:], bad)), ("limits", amounts, (good, bad[1:])), ("limits", amounts, (bad, good)), ("limits", {"a": 2, "b": 2}, (good, bad)), ("limits", amounts, [good, bad]),
                      ("limits", amounts, (good + good[:1], bad + [((0, 0), [])]))):
            self.assertIs(lets_paper(PROGRAM, paper), False)
        self.assertIs(lets_paper(PROGRAM, ("limits", {"a": 1, "b": 1, "z": 9}, (good[::-1], bad + bad))), True)
        # Where there are too many limits no paper is right.
        self.assertIs(lets_paper(PROGRAM, ("limits", {"a": 3, "b": 4}, (good, bad))), False)
        self.assertIs(lets_paper(PROGRAM, ("limits", {"a": 7}, ODD)), False)
        self.assertIs(lets_paper(PROGRAM, ("limits", {"a": 3, "b": 3}, limits_paper(PROGRAM, Sizes({"a": 3, "b": 3})))), True)

    def test_ranks(self):
        self.assertEqual(ranks(RANKED), RANKS[1])
        self.assertIs(lets_paper(RANKED, RANKS), True)
        self.assertIs(lets_paper(RANKED, ("ranks", {"b": 9, "a": -3})), True)
        for told in ({"a": 1, "b": 0}, {"a": 0, "b": 0}, {"a": 0}, {"a": 0, "b": 1, "c": 2}, {"a": False, "b": 1}, None, [("a", 0), ("b", 1)]):
            self.assertIs(lets_paper(RANKED, ("ranks", told)), False)
        self.assertIs(lets_paper(PROGRAM, RANKS), False)

    def test_other_values(self):
        others = [list(STUCK), STUCK[:2], (*STUCK, 1), (*RANKS, 1), ("ranks",), ("verdict", [("a", 1), ("b", 1)], STUCK[2]), ("verdict", {"a": True, "b": 1}, STUCK[2]), ("verdict", {"a": -1}, STUCK[2]),
                  ("verdict", {"A": 1}, STUCK[2]), ("verdict", Sizes({"a": 1, "b": 1}), STUCK[2]), ("stuck", *STUCK[1:]), ("verdict", STUCK[1], list(STUCK[2])), ("verdict", ODD, STUCK[2]), ("verdict", STUCK[1], ODD),
                  ("limits", ODD, LIMITS[2]), ("limits", LIMITS[1], ODD), ("limits", None, LIMITS[2]), ("ranks", ODD), (ODD, STUCK[1], STUCK[2]), ("verdict", {"a": 1.0, "b": 1}, STUCK[2]),
                  ("verdict", {1: 1}, STUCK[2]), ("limits", {"a": "1"}, LIMITS[2])]
        for thing in [*ANYTHING, *others]:
            self.assertIs(lets_paper(PROGRAM, thing), False)
        for thing in ANYTHING:
            self.raises(InvalidPaper, thing, lets_paper, thing, ODD)
            self.assertIs(lets_paper(PROGRAM, ("verdict", STUCK[1], thing)), False)
            self.assertIs(lets_paper(PROGRAM, ("limits", LIMITS[1], thing)), False)
            self.assertIs(lets_paper(PROGRAM, ("ranks", thing)), False)


class TestReport(Case):
    def test_crossed(self):
        told = report(PROGRAM)
        self.assertEqual([paper[0] for paper in told], ["verdict"] * 9)
        self.assertEqual([Sizes(paper[1]) for paper in told], [sizes for sizes, _ in Goods(PROGRAM).grid()])
        self.assertEqual([paper[2][0] == "good" for paper in told], [good for _, good in Goods(PROGRAM).grid()])
        self.assertIs(lets_report(PROGRAM, told), True)

    def test_ranks(self):
        told = report(program=RANKED)
        self.assertEqual(told[-1], RANKS)
        self.assertIs(lets_report(program=RANKED, thing=told), True)
        # The ranks may be left out.
        self.assertIs(lets_report(RANKED, told[:-1]), True)
        self.assertEqual(report(jobs("run;", pools="a b")), [("verdict", {}, ("good", [({}, [])])), ("ranks", {"a": 0, "b": 0})])

    def test_by_chance(self):
        many = 0
        for program, goods in some_programs():
            told = report(program)
            papers = [paper for paper in told if paper[0] == "verdict"]
            self.assertEqual([(Sizes(paper[1]), paper[2][0] == "good") for paper in papers], list(goods.grid()))
            self.assertEqual([paper for paper in told if paper[0] != "verdict"], [] if ranks(program) is None else [("ranks", ranks(program))])
            self.assertTrue(all(lets_paper(program, paper) for paper in told))
            self.assertIs(lets_report(program, told), True)
            rng = random.Random(6)
            for _ in range(5):
                sizes = Sizes({pool: rng.randint(0, caps(program)[pool] + 2) for pool in program.pools + ("z",)})
                self.assertIs(good_by_report(program, told, sizes), sizes in goods)
                self.assertIs(good_by_report(program, told, sizes), is_good(program, sizes))
            at = rng.randrange(len(papers))
            self.assertIs(lets_report(program, told[:at] + told[at + 1:]), False)
            many += 1
        self.assertGreater(many, 40)

    def test_results_are_new(self):
        for paper in report(PROGRAM):
            paper[1].clear()
            paper[2][1].clear()
        self.assertIs(lets_report(PROGRAM, report(PROGRAM)), True)

    def test_raises(self):
        for thing in ANYTHING:
            self.raises(InvalidPaper, thing, report, thing)
        self.raises(TooMany, 400, report, WIDE)
        self.raises(TooMany, 2000, report, LARGE)


class TestLetsReport(Case):
    def setUp(self):
        self.told = report(PROGRAM)

    def test_order(self):
        told = self.told
        self.assertIs(lets_report(PROGRAM, told[::-1]), True)
        self.assertIs(lets_report(PROGRAM, told + told), True)
        self.assertIs(lets_report(PROGRAM, told + [LIMITS]), True)
        more = ("verdict", {"a": 9, "b": 9}, verdict(PROGRAM, Sizes({"a": 9, "b": 9})))
        self.assertIs(lets_report(PROGRAM, [more, *told]), True)

    def test_left_out(self):
        told = self.told
        for at in range(len(told)):
            self.assertIs(lets_report(PROGRAM, told[:at] + told[at + 1:]), False)
            word, amounts, right = told[at]
            # Other pools make other sizes, amounts of 0 do not.
            self.assertIs(lets_report(PROGRAM, told[:at] + [(word, {**amounts, "z": 1}, right)] + told[at + 1:]), False)
            self.assertIs(lets_report(PROGRAM, told[:at] + [(word, {"a": 0, "b": 0, "z": 0, **amounts}, right)] + told[at + 1:]), True)
        self.assertIs(lets_report(PROGRAM, []), False)

    def test_one_wrong_paper(self):
        for paper in (RANKS, ("verdict", {"a": 9}, ("good", [])), ("limits", {"a": 9}, ([], [])), ODD, None):
            self.assertIs(lets_report(PROGRAM, self.told + [paper]), False)
            self.assertIs(lets_report(PROGRAM, [paper, *self.told]), False)
        self.assertIs(lets_report(PROGRAM.with_limit("load", 2), self.told), False)

    def test_too_many(self):
        # Only if all papers are right.
        paper = ("verdict", {}, ("stuck", [("enter", "one", 0)]))
        for program, number in ((WIDE, 400), (LARGE, 2000)):
            for rows in ([], [paper], [paper, paper]):
                self.raises(TooMany, number, lets_report, program, rows)
                self.raises(TooMany, number, good_by_report, program, rows, ONE)
            for rows in ([paper, None], [("verdict", {}, ("good", []))], (paper,), None, ODD, [paper, ODD]):
                self.assertIs(lets_report(program, rows), False)
                self.raises(InvalidPaper, rows, good_by_report, program, rows, ONE)
                self.raises(InvalidSizes, None, good_by_report, program, rows, None)

    def test_what_is_not_about_the_grid(self):
        paper = ("verdict", {}, ("stuck", [("enter", "one", 0)]))
        for program in (WIDE, LARGE):
            self.assertIs(lets_paper(program, paper), True)
            self.assertIs(lets_paper(program, paper_of_limits(program, {})), True)
        self.assertEqual((floor_of(WIDE), floor_of(LARGE)), ({"a": 9, "b": 18}, {"a": 1}))

    def test_400(self):
        program = jobs("take a 1 { }", "take b 9 { } take a 9 { take a 9 { } } take b 1 { take b 9 { take b 9 { } } }")
        told = report(program)
        self.assertEqual(len([paper for paper in told if paper[0] == "verdict"]), 400)
        self.assertIs(lets_report(program, told), True)
        self.assertIs(lets_report(program, told[1:]), False)
        program = jobs("take a 1 { }", "take b 9 { } take a 9 { take a 9 { } } take b 2 { take b 9 { take b 9 { } } }")
        self.raises(TooMany, 400, report, program)
        self.raises(TooMany, 400, lets_report, program, [])

    def test_other_values(self):
        for thing in [*ANYTHING, tuple(self.told), dict(enumerate(self.told))]:
            self.assertIs(lets_report(PROGRAM, thing), False)
            self.assertIs(lets_report(PROGRAM, self.told + [thing]), False)
        for thing in ANYTHING:
            self.raises(InvalidPaper, thing, lets_report, thing, ODD)


class TestGoodByReport(Case):
    def test_crossed(self):
        told = report(PROGRAM)
        for amounts, good in (({}, False), ({"a": 1, "b": 1}, False), ({"a": 2, "b": 1}, True), ({"a": 9, "b": 1}, True), ({"a": 9}, False), ({"a": 9, "b": 9, "z": 1}, True), ({"a": 1, "b": 1, "z": 9}, False)):
            self.assertIs(good_by_report(PROGRAM, told, Sizes(amounts)), good)
        self.assertIs(good_by_report(program=PROGRAM, rows=told[::-1] + told, sizes=ONE), False)
        more = ("verdict", {"a": 1, "b": 1, "z": 9}, told[4][2])
        self.assertIs(good_by_report(PROGRAM, [more, *told], ONE), False)

    def test_raises(self):
        told = report(PROGRAM)
        for thing in ANYTHING:
            self.raises(InvalidPaper, thing, good_by_report, thing, None, None)
            # The sizes come ahead of the paper.
            self.raises(InvalidSizes, thing, good_by_report, PROGRAM, None, thing)
            self.raises(InvalidSizes, thing, good_by_report, PROGRAM, told, thing)
            self.raises(InvalidPaper, thing, good_by_report, PROGRAM, thing, ONE)
            rows = told + [thing]
            self.raises(InvalidPaper, rows, good_by_report, PROGRAM, rows, ONE)
        rows = told[1:]
        self.raises(InvalidPaper, rows, good_by_report, PROGRAM, rows, ONE)


class TestLimitsAndFloor(Case):
    def test_limits(self):
        for amounts in ({"a": 1, "b": 1}, {}, {"a": 3, "b": 0}, {"a": 2, "z": 9}):
            paper = paper_of_limits(PROGRAM, amounts)
            self.assertEqual((paper[0], Sizes(paper[1]), len(paper)), ("limits", Sizes(amounts), 3))
            self.assertEqual(paper[2], limits_paper(PROGRAM, Sizes(amounts)))
            self.assertIs(lets_paper(PROGRAM, paper), True)
            self.assertIsNot(paper[1], amounts)
        self.assertIsInstance(paper_of_limits(program=PROGRAM, amounts={}), tuple)

    def test_limits_raise(self):
        for thing in [*ANYTHING, ONE, {"a": True}, {"a": -1}, {"A": 1}, {"a": ODD}, [("a", 1)]]:
            if not are_amounts(thing):
                self.raises(InvalidSizes, thing, paper_of_limits, PROGRAM, thing)
        for thing in ANYTHING:
            self.raises(InvalidPaper, thing, paper_of_limits, thing, None)
            self.raises(InvalidPaper, thing, floor_of, thing)
        self.raises(TooMany, 6, paper_of_limits, PROGRAM, {"a": 4, "b": 3})
        self.raises(TooMany, 2000, paper_of_limits, jobs("take a 1 { } " * 8, pools="a", limit=0), {"a": 6})

    def test_floor(self):
        self.assertEqual(floor_of(PROGRAM), {"a": 1, "b": 1})
        self.assertEqual(floor_of(program=jobs("run;")), {})
        self.assertEqual(floor_of(jobs("take a 2 { take a 3 { } } take b 1 { }", "take c 9 { }", pools="a b c").with_limit("two", 0)), {"a": 5, "b": 1})
        for program, goods in some_programs():
            told = floor_of(program)
            self.assertEqual(told, lone_need(program).by_name())
            # With less of one of these no sizes are good.
            for sizes, good in goods.grid():
                if good:
                    self.assertTrue(all(sizes[pool] >= amount for pool, amount in told.items()))
        told = floor_of(PROGRAM)
        told.clear()
        self.assertEqual(floor_of(PROGRAM), {"a": 1, "b": 1})
