"""[30] the good sizes that cost least."""

import random

from leastpools.boxes import boxes, lets_box, lies_in
from leastpools.costs import cheapest, cheapest_paper, cost, lets_cheapest
from leastpools.errors import InvalidProgram, InvalidSizes, TooMany
from leastpools.grids import caps
from leastpools.parsing import parse
from leastpools.sizes import Sizes
from leastpools.verdicts import is_good, lets_verdict, verdict
from tests.helpers import ANYTHING, CROSSED, ODD, Case, jobs
from tests.model import random_program

PROGRAM = parse(CROSSED)
ONE = Sizes({"a": 1, "b": 1})
NOTHING = Sizes({})
DOCUMENT = parse("pools s t; job load limit 2 { take s 1 { take t 1 { take t 1 { } } } }")
LARGE = parse("pools a; job one limit 6 { " + "take a 1 { } " * 8 + "}")
WIDE = jobs("take a 9 { take b 9 { take b 9 { } } }", limit=6)


def texts(some):
    return [str(one) for one in some]


def choice(program, given):
    """The sizes that are asked about, in the order of the grid."""
    rows = [{}]
    for pool in program.pools:
        most = max(caps(program)[pool], given[pool])
        rows = [{**row, pool: amount} for row in rows for amount in range(given[pool], most + 1)]
    return [Sizes(row) for row in rows]


def slow_cheapest(program, costs, given):
    """The cheapest good ones, and all others that cost at most as much."""
    told = [(cost(program, costs, sizes), sizes) for sizes in choice(program, given)]
    least = min(price for price, sizes in told if is_good(program, sizes))
    good = [sizes for price, sizes in told if price == least and is_good(program, sizes)]
    return good, [sizes for price, sizes in told if price <= least and sizes not in good]


def some_questions(most=150):
    """Tuples (program, costs, given) by chance."""
    for seed in range(most):
        rng = random.Random(seed)
        program = random_program(seed, most_jobs=2)
        costs = Sizes({pool: rng.choice((0, 1, 1, 2, 3)) for pool in program.pools})
        given = Sizes({pool: rng.choice((0, 0, 1, 2, 7)) for pool in program.pools + ("z",)})
        if len(choice(program, given)) <= 100:
            yield program, costs, given


class TestCost(Case):
    def test_cost(self):
        self.assertEqual(cost(PROGRAM, Sizes({"a": 2, "b": 3, "z": 9}), Sizes({"a": 4, "b": 5, "z": 9})), 23)
        self.assertEqual(cost(program=PROGRAM, costs=NOTHING, sizes=ONE), 0)
        self.assertEqual(cost(PROGRAM, Sizes({"z": 1}), Sizes({"z": 1})), 0)
        self.assertEqual(cost(PROGRAM, Sizes({"a": 10 ** 20}), Sizes({"a": 10 ** 20})), 10 ** 40)

    def test_raises(self):
        for thing in ANYTHING:
            self.raises(InvalidProgram, thing, cost, thing, None, None)
            self.raises(InvalidSizes, thing, cost, PROGRAM, thing, None)
            self.raises(InvalidSizes, thing, cost, PROGRAM, ONE, thing)
        self.assertEqual(cost(WIDE, ONE, ONE), 2)


class TestCheapest(Case):
    def test_document(self):
        told = [cheapest(DOCUMENT, Sizes({"s": 1, "t": 1}), given) for given in (NOTHING, Sizes({"s": 2}))]
        self.assertEqual([texts(some) for some in told], [["s 1 t 2"], ["s 2 t 3"]])

    def test_several(self):
        # As many of a as of b, in the order of the grid.
        self.assertEqual(texts(cheapest(PROGRAM, ONE, NOTHING)), ["a 1 b 2", "a 2 b 1"])
        turned = parse(CROSSED.replace("pools a b", "pools b a"))
        self.assertEqual(texts(cheapest(turned, ONE, NOTHING)), ["a 2 b 1", "a 1 b 2"])
        self.assertEqual(texts(cheapest(PROGRAM, Sizes({"a": 1, "b": 2}), NOTHING)), ["a 2 b 1"])

    def test_costs_of_0(self):
        self.assertEqual(texts(cheapest(PROGRAM, NOTHING, NOTHING)), ["a 1 b 2", "a 2 b 1", "a 2 b 2"])
        self.assertEqual(texts(cheapest(PROGRAM, Sizes({"a": 1}), NOTHING)), ["a 1 b 2"])
        self.assertEqual(texts(cheapest(PROGRAM, Sizes({"z": 1}), ONE)), ["a 1 b 2", "a 2 b 1", "a 2 b 2"])

    def test_given(self):
        # Beyond the caps it stays as it is; other pools are ignored.
        self.assertEqual(texts(cheapest(PROGRAM, ONE, Sizes({"a": 7, "z": 3}))), ["a 7 b 1"])
        self.assertEqual(texts(cheapest(PROGRAM, ONE, Sizes({"a": 7, "b": 10 ** 9}))), [f"a 7 b {10 ** 9}"])
        self.assertEqual(texts(cheapest(program=PROGRAM, costs=NOTHING, given=Sizes({"b": 5}))), ["a 1 b 5", "a 2 b 5"])
        self.assertEqual(cheapest(jobs("run;"), ONE, NOTHING), [NOTHING])
        self.assertEqual(texts(cheapest(jobs("run;"), ONE, ONE)), ["a 1 b 1"])

    def test_by_chance(self):
        many = []
        for program, costs, given in some_questions():
            try:
                told = cheapest(program, costs, given)
            except TooMany:
                continue
            self.assertEqual(told, slow_cheapest(program, costs, given)[0])
            many.append(len(told))
        self.assertGreater(min(many.count(1), 3 * sum(one > 2 for one in many)), 20)

    def test_results_are_new(self):
        cheapest(PROGRAM, ONE, NOTHING).clear()
        self.assertEqual(len(cheapest(PROGRAM, ONE, NOTHING)), 2)

    def test_raises(self):
        for call in (cheapest, cheapest_paper, lambda *rest: lets_cheapest(*rest, ODD)):
            for thing in ANYTHING:
                self.raises(InvalidProgram, thing, call, thing, None, None)
                self.raises(InvalidSizes, thing, call, PROGRAM, thing, None)
                self.raises(InvalidSizes, thing, call, PROGRAM, ONE, thing)
                self.raises(InvalidSizes, thing, call, WIDE, ONE, thing)
            self.raises(TooMany, 400, call, WIDE, ONE, NOTHING)
        for call in (cheapest, cheapest_paper):
            self.raises(TooMany, 2000, call, LARGE, ONE, NOTHING)
        self.assertIs(lets_cheapest(LARGE, ONE, NOTHING, ([NOTHING], [[]], [])), False)

    def test_400(self):
        # The grid is larger, what is asked about is not.
        self.assertEqual(str(caps(WIDE)), "a 54 b 108")
        program = WIDE.with_limit("one", 2)
        self.assertEqual(str(caps(program)), "a 18 b 36")
        self.assertEqual(texts(cheapest(program, Sizes({"a": 1}), Sizes({"a": 9, "b": 27}))), [f"a 9 b {number}" for number in range(27, 37)])
        program = jobs("take a 1 { }", "take b 9 { } take a 9 { take a 9 { } } take b 1 { take b 9 { take b 9 { } } }")
        self.assertEqual(texts(cheapest(program, ONE, NOTHING)), ["a 18 b 19"])
        program = jobs("take a 1 { }", "take b 9 { } take a 9 { take a 9 { } } take b 2 { take b 9 { take b 9 { } } }")
        self.raises(TooMany, 400, cheapest, program, ONE, NOTHING)
        self.assertEqual(texts(cheapest(program, ONE, Sizes({"b": 1}))), ["a 18 b 20"])


class TestPaper(Case):
    def check(self, program, costs, given, paper):
        told, verdicts, some = paper
        good, others = slow_cheapest(program, costs, given)
        self.assertEqual((told, len(verdicts)), (good, len(good)))
        for sizes, rows in zip(told, verdicts):
            self.assertIs(lets_verdict(program, sizes, ("good", rows)), True)
        self.assertTrue(all(lets_box(program, box) for box in some))
        self.assertTrue(all(lies_in(program, some, sizes) for sizes in others))
        for at in range(len(some)):
            self.assertFalse(all(lies_in(program, some[:at] + some[at + 1:], sizes) for sizes in others))
        self.assertIs(lets_cheapest(program, costs, given, paper), True)

    def test_examples(self):
        for program, pools in ((PROGRAM, "ab"), (DOCUMENT, "st")):
            for costs in ((1, 1), (0, 0), (1, 0), (0, 3), (5, 2)):
                for given in ((0, 0), (1, 0), (0, 1), (2, 2), (9, 0), (9, 9)):
                    costs_of, given_of = Sizes(dict(zip(pools, costs))), Sizes(dict(zip(pools, given)))
                    paper = cheapest_paper(program, costs_of, given_of)
                    self.assertIsInstance(paper, tuple)
                    self.check(program, costs_of, given_of, paper)
        self.assertEqual(cheapest_paper(program=PROGRAM, costs=ONE, given=Sizes({"a": 9, "b": 9}))[2], [])

    def test_by_chance(self):
        for program, costs, given in some_questions(70):
            try:
                paper = cheapest_paper(program, costs, given)
            except TooMany:
                continue
            self.check(program, costs, given, paper)

    def test_results_are_new(self):
        told, verdicts, some = cheapest_paper(PROGRAM, ONE, NOTHING)
        verdicts[0].clear()
        some[0][2].clear()
        for part in (told, verdicts, some):
            part.clear()
        self.check(PROGRAM, ONE, NOTHING, cheapest_paper(PROGRAM, ONE, NOTHING))


class TestLetsCheapest(Case):
    def setUp(self):
        self.told, self.verdicts, self.boxes = cheapest_paper(PROGRAM, ONE, NOTHING)

    def lets(self, told, verdicts, some, program=PROGRAM, costs=ONE, given=NOTHING):
        return lets_cheapest(program, costs, given, (told, verdicts, some))

    def test_told(self):
        told, verdicts = self.told, self.verdicts
        paper = (told, verdicts, self.boxes)
        self.assertIs(lets_cheapest(program=PROGRAM, costs=ONE, given=NOTHING, thing=paper), True)
        # One left out, put in, twice, in another order, of another cost.
        self.assertIs(self.lets([], [], self.boxes), False)
        self.assertIs(self.lets(told[:1], verdicts[:1], self.boxes), False)
        self.assertIs(self.lets(told[1:], verdicts[1:], self.boxes), False)
        self.assertIs(self.lets(told[::-1], verdicts[::-1], self.boxes), False)
        self.assertIs(self.lets(told * 2, verdicts * 2, self.boxes), False)
        self.assertIs(self.lets([told[0], *told], [verdicts[0], *verdicts], self.boxes), False)
        more = Sizes({"a": 2, "b": 2})
        rows = verdict(PROGRAM, more)[1]
        self.assertIs(self.lets([*told, more], [*verdicts, rows], self.boxes), False)
        self.assertIs(self.lets([more], [rows], self.boxes), False)
        self.assertIs(self.lets([*told, more], [*verdicts, rows], self.boxes, costs=NOTHING), True)
        self.assertIs(self.lets(told, verdicts, self.boxes, costs=NOTHING), False)
        self.assertIs(self.lets([ONE], [verdicts[0]], self.boxes), False)

    def test_such_sizes(self):
        # Too great, too small for what is given, with other pools.
        great = Sizes({"a": 3, "b": 1})
        self.assertIs(self.lets([great], [verdict(PROGRAM, great)[1]], boxes(PROGRAM), costs=Sizes({"b": 1})), False)
        two = Sizes({"a": 2, "b": 1})
        self.assertIs(self.lets([two], [verdict(PROGRAM, two)[1]], boxes(PROGRAM), costs=Sizes({"b": 1})), True)
        self.assertIs(self.lets([two], [verdict(PROGRAM, two)[1]], boxes(PROGRAM), given=Sizes({"b": 2})), False)
        self.assertIs(self.lets([great], [verdict(PROGRAM, great)[1]], boxes(PROGRAM), given=Sizes({"a": 3})), True)
        self.assertIs(self.lets([great], [verdict(PROGRAM, great)[1]], boxes(PROGRAM), given=Sizes({"a": 3, "z": 3})), True)
        self.assertIs(self.lets([self.told[0]("z"), self.told[1]], self.verdicts, self.boxes), False)

    def test_verdicts(self):
        told, verdicts = self.told, self.verdicts
        self.assertIs(self.lets(told, verdicts[:1], self.boxes), False)
        self.assertIs(self.lets(told, verdicts[1:], self.boxes), False)
        self.assertIs(self.lets(told, verdicts + verdicts[:1], self.boxes), False)
        self.assertIs(self.lets(told, verdicts[::-1], self.boxes), False)
        self.assertIs(self.lets(told, tuple(verdicts), self.boxes), False)
        # Further rows are let through, one less is not.
        self.assertIs(self.lets(told, [rows[::-1] + rows for rows in verdicts], self.boxes), True)
        self.assertIs(self.lets(told, [verdicts[0][:-1], verdicts[1]], self.boxes), False)
        self.assertIs(self.lets(told, [("good", rows) for rows in verdicts], self.boxes), False)

    def test_boxes(self):
        for at in range(len(self.boxes)):
            self.assertIs(self.lets(self.told, self.verdicts, self.boxes[:at] + self.boxes[at + 1:]), False)
        self.assertIs(self.lets(self.told, self.verdicts, boxes(PROGRAM)), True)
        self.assertIs(self.lets(self.told, self.verdicts, boxes(PROGRAM) + self.boxes[::-1]), True)
        self.assertIs(self.lets(self.told, self.verdicts, tuple(self.boxes)), False)
        # All boxes are to be boxes, also those that are not needed.
        wrong = (NOTHING, {"a": 2, "b": 2}, [])
        self.assertIs(self.lets(self.told, self.verdicts, boxes(PROGRAM) + [wrong]), False)
        # Where nothing else costs as little, none is needed.
        given = Sizes({"a": 2, "b": 1})
        self.assertIs(self.lets([given], [verdict(PROGRAM, given)[1]], [], given=given), True)
        self.assertIs(self.lets([given], [verdict(PROGRAM, given)[1]], boxes(PROGRAM), given=given), True)

    def test_by_chance(self):
        for program, costs, given in some_questions(50):
            try:
                told, verdicts, some = cheapest_paper(program, costs, given)
            except TooMany:
                continue
            for at in range(len(some)):
                self.assertIs(self.lets(told, verdicts, some[:at] + some[at + 1:], program, costs, given), False)
            for at in range(len(told)):
                rest = told[:at] + told[at + 1:]
                self.assertIs(self.lets(rest, verdicts[:at] + verdicts[at + 1:], some, program, costs, given), False)
            self.assertIs(self.lets(told, verdicts, boxes(program), program, costs, given), True)

    def test_other_values(self):
        told, verdicts, some = self.told, self.verdicts, self.boxes
        for thing in [*ANYTHING, [told, verdicts, some], (told, verdicts), (told, verdicts, some, 1), (tuple(told), verdicts, some)]:
            self.assertIs(lets_cheapest(PROGRAM, ONE, NOTHING, thing), False)
        for thing in ANYTHING:
            self.assertIs(self.lets(thing, verdicts, some), False)
            self.assertIs(self.lets(told, thing, some), False)
            self.assertIs(self.lets(told, verdicts, thing), False)
            self.assertIs(self.lets([*told, thing], [*verdicts, []], some), False)
            self.assertIs(self.lets(told, [verdicts[0], thing], some), False)
            self.assertIs(self.lets(told, verdicts, [*some, thing]), False)
        self.assertIs(self.lets([one.by_name() for one in told], verdicts, some), False)
