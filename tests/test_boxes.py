"""[29] boxes of bad sizes, and atlases."""

import random

from leastpools.boxes import atlas, boxes, lets_atlas, lets_box, lies_in
from leastpools.errors import InvalidPaper, InvalidProgram, InvalidSizes, TooMany
from leastpools.gates import gates, lets_gates
from leastpools.grids import Goods, caps
from leastpools.parsing import parse
from leastpools.runs import Run
from leastpools.sizes import Sizes
from leastpools.states import State
from leastpools.stuck import is_stuck
from leastpools.verdicts import is_good, verdict
from tests.helpers import ANYTHING, CROSSED, ODD, Case, jobs
from tests.model import random_program

PROGRAM = parse(CROSSED)
ONE = Sizes({"a": 1, "b": 1})
MOVES = [("enter", "load", 0), ("enter", "save", 0), ("take", "load", 0, (), 1), ("take", "save", 0, (), 1)]
BOX = (ONE, {"a": 1, "b": 1}, MOVES)
DOCUMENT = parse("pools s t; job load limit 2 { take s 1 { take t 1 { take t 1 { } } } }")
# Enough of each pool, and still too many states, and too many sizes.
LARGE = parse("pools a; job one limit 6 { " + "take a 1 { } " * 8 + "}")
WIDE = jobs("take a 9 { take b 9 { take b 9 { } } }", limit=6)


def texts(some):
    return [str(one) for one in some]


def some_programs(most=120):
    """Tuples (program, Goods) by chance."""
    for seed in range(most):
        program = random_program(seed, most_jobs=2)
        try:
            yield program, Goods(program)
        except TooMany:
            continue


def lies(program, box, sizes):
    """Whether sizes lie in a box, by the words of [29] alone."""
    low, high, _ = box
    most = caps(program)
    return all(low[pool] <= sizes[pool] and (high[pool] is None or min(sizes[pool], most[pool]) <= high[pool]) for pool in program.pools)


def around(goods, rng, many=30):
    """Some sizes on the grid, and some beyond it, with other pools, too."""
    grid = [sizes for sizes, _ in goods.grid()]
    for sizes in rng.sample(grid, min(many, len(grid))):
        yield sizes
        yield sizes(rng.choice(goods.program.pools), rng.randint(1, 9))("z", rng.randint(0, 2))


class TestLetsBox(Case):
    def lets(self, *parts, program=PROGRAM):
        return lets_box(program, parts)

    def test_boxes(self):
        self.assertIs(lets_box(program=PROGRAM, thing=BOX), True)
        self.assertIs(self.lets(ONE, {"b": 1, "a": 1}, [MOVES[1], MOVES[0], MOVES[3], MOVES[2]]), True)
        self.assertIs(self.lets(ONE("z", 3), {"a": 1, "b": 1}, MOVES), True)
        self.assertIs(self.lets(Sizes({}), {"a": 0, "b": None}, MOVES[:1]), True)
        self.assertIs(self.lets(Sizes({}), {"a": None, "b": 0}, MOVES[:2]), True)
        # The run is possible with more, too, and high may be as great as it stays stuck.
        self.assertIs(self.lets(Sizes({"b": 7}), {"a": 0, "b": 7}, MOVES[:1]), True)
        self.assertIs(self.lets(Sizes({"b": 7}), {"a": 0, "b": None}, MOVES[:1]), True)
        self.assertIs(self.lets(Sizes({"b": 7}), {"a": 0, "b": 99}, MOVES[:1]), True)

    def test_none(self):
        # None is the cap, here 2 of each, which is enough.
        self.assertEqual(str(caps(PROGRAM)), "a 2 b 2")
        self.assertIs(self.lets(ONE, {"a": None, "b": 1}, MOVES), False)
        self.assertIs(self.lets(ONE, {"a": None, "b": None}, MOVES), False)
        # Where low has more than the cap, None is that.
        program = jobs("take a 1 { take a 1 { } }", "take b 1 { }")
        self.assertIs(self.lets(Sizes({"a": 1}), {"a": 1, "b": None}, [("enter", "one", 0), ("take", "one", 0, (), 1)], program=program), True)
        self.assertIs(self.lets(Sizes({"a": 2}), {"a": None, "b": 0}, [("enter", "one", 0), ("take", "one", 0, (), 1)], program=program), False)
        self.assertIs(self.lets(Sizes({"a": 9}), {"a": None, "b": 0}, [("enter", "two", 0)], program=program), True)

    def test_ends(self):
        for ends in ({"a": 0, "b": 1}, {"a": 1, "b": 2}, {"a": 2, "b": 1}, {"a": 1}, {}, {"a": 1, "b": 1, "z": 1}, {"a": 1, "b": 1, "z": None}, {"a": True, "b": 1}, {"a": 1, "b": "1"}, {"a": 1, "b": 1.0},
                     {"a": 1, "b": -1}, {"a": 1, "z": 1}, {"a": 1, 1: 1}, {"a": 1, "b": ODD}, [("a", 1), ("b", 1)], ONE, None, ("a", "b")):
            self.assertIs(self.lets(ONE, ends, MOVES), False)

    def test_runs(self):
        # Possible at high only, or not at all; not stuck at high, or nowhere.
        self.assertIs(self.lets(Sizes({"a": 1}), {"a": 1, "b": 1}, MOVES), False)
        self.assertIs(self.lets(Sizes({}), {"a": 2, "b": 2}, MOVES), False)
        for moves in (MOVES[1:], MOVES[:3], [], [*MOVES, ("take", "load", 1, (), None)], [MOVES[0], *MOVES], tuple(MOVES), dict(enumerate(MOVES)), [*MOVES[:3], ("take", "save", 0, (), True)]):
            self.assertIs(self.lets(ONE, {"a": 1, "b": 1}, moves), False)
        self.assertIs(self.lets(Sizes({}), {"a": 1, "b": 0}, MOVES[:1]), False)

    def test_low(self):
        for low in ({"a": 1, "b": 1}, None, (1, 1), Sizes({}), Sizes({"a": 2}), Sizes({"a": 2, "b": 1}), ODD):
            self.assertIs(self.lets(low, {"a": 1, "b": 1}, MOVES), False)

    def test_other_values(self):
        for thing in [*ANYTHING, list(BOX), (*BOX, 1), BOX[:2], (ODD, *BOX[1:]), (ONE, BOX[1], ODD), (ONE, ODD, MOVES)]:
            self.assertIs(lets_box(PROGRAM, thing), False)
        for thing in ANYTHING:
            self.assertIs(self.lets(ONE, BOX[1], [thing]), False)
            self.assertIs(self.lets(ONE, BOX[1], [*MOVES, thing]), False)
            self.assertIs(self.lets(ONE, {"a": 1, "b": thing}, MOVES), thing is ANYTHING[4])
            self.raises(InvalidProgram, thing, lets_box, thing, ODD)


class TestLiesIn(Case):
    def test_cut_at_the_caps(self):
        box = (Sizes({}), {"a": 0, "b": 1}, MOVES[:1])
        self.assertEqual([lies_in(PROGRAM, [box], Sizes({"b": number})) for number in range(4)], [True, True, False, False])
        # High beyond the cap is no end.
        box = (Sizes({}), {"a": 0, "b": 2}, MOVES[:1])
        self.assertEqual([lies_in(PROGRAM, [box], Sizes({"b": number})) for number in (2, 3, 99)], [True] * 3)
        # Low is not cut.
        box = (Sizes({"b": 5}), {"a": 0, "b": 5}, MOVES[:1])
        self.assertEqual([lies_in(PROGRAM, [box], Sizes({"b": number})) for number in (1, 2, 4, 5, 9)], [False, False, False, True, True])
        self.assertIs(lies_in(PROGRAM, [], Sizes({})), False)
        self.assertIs(lies_in(program=PROGRAM, boxes_told=[box, BOX], sizes=ONE("z", 9)), True)
        self.assertIs(lies_in(PROGRAM, [BOX], ONE("a")), False)

    def test_document(self):
        told = boxes(DOCUMENT)
        self.assertEqual([lies_in(DOCUMENT, told, Sizes({"s": 2, "t": number})) for number in (1, 2, 3)], [True, True, False])

    def test_raises(self):
        wrong = (ONE, {"a": 1}, MOVES)
        for thing in [*ANYTHING, (BOX,), BOX, [wrong], [BOX, wrong], [BOX, ODD]]:
            if not (isinstance(thing, list) and not thing):
                self.raises(InvalidPaper, thing, lies_in, PROGRAM, thing, ONE)
                # The paper comes ahead of the sizes.
                self.raises(InvalidPaper, thing, lies_in, PROGRAM, thing, None)
        for thing in ANYTHING:
            self.raises(InvalidProgram, thing, lies_in, thing, None, None)
            self.raises(InvalidSizes, thing, lies_in, PROGRAM, [BOX], thing)


class TestBoxes(Case):
    def check(self, program, goods, told):
        rng = random.Random(2)
        for box in told:
            self.assertIs(lets_box(program, box), True)
            low, high, moves = box
            self.assertEqual(set(low.names()) - set(program.pools), set())
            run = Run(program, low, moves)
            top = Sizes({pool: caps(program)[pool] if high[pool] is None else high[pool] for pool in program.pools})
            self.assertTrue(is_stuck(State(program, top | low, run.state.jobs_by_position())))
        for sizes in around(goods, rng):
            self.assertEqual(lies_in(program, told, sizes), sizes not in goods)
            self.assertEqual(any(lies(program, box, sizes) for box in told), sizes not in goods)
        # Each box has something that the others do not have.
        bad = [sizes for sizes, good in goods.grid() if not good]
        for at in range(len(told)):
            others = told[:at] + told[at + 1:]
            self.assertTrue(any(not any(lies(program, box, sizes) for box in others) for sizes in bad))
        self.assertTrue(all(any(lies(program, box, sizes) for box in told) for sizes in bad))

    def test_crossed(self):
        told = boxes(PROGRAM)
        self.check(PROGRAM, Goods(PROGRAM), told)
        self.assertEqual(len(told), 3)
        self.check(DOCUMENT, Goods(DOCUMENT), boxes(program=DOCUMENT))

    def test_no_bad_sizes(self):
        for program in (jobs("run;"), jobs("take a 3 { }", limit=0)):
            self.assertEqual(boxes(program), [])
            self.assertEqual(atlas(program), ([({}, [Sizes({})])], []))
            self.assertIs(lets_atlas(program, atlas(program)), True)

    def test_by_chance(self):
        many = []
        for program, goods in some_programs():
            told = boxes(program)
            many.append(len(told))
            self.check(program, goods, told)
        self.assertGreater(min(len(many), 3 * sum(one > 4 for one in many)), 50)

    def test_results_are_new(self):
        for low, high, moves in boxes(PROGRAM):
            high.clear()
            moves.clear()
        self.check(PROGRAM, Goods(PROGRAM), boxes(PROGRAM))

    def test_raises(self):
        for thing in ANYTHING:
            self.raises(InvalidProgram, thing, boxes, thing)
            self.raises(InvalidProgram, thing, atlas, thing)
        for call in (boxes, atlas):
            self.raises(TooMany, 2000, call, LARGE)
            self.raises(TooMany, 400, call, WIDE)

    def test_400(self):
        # 20 times 20 sizes, and 20 times 21.
        program = jobs("take a 1 { }", "take b 9 { } take a 9 { take a 9 { } } take b 1 { take b 9 { take b 9 { } } }")
        self.assertEqual(str(caps(program)), "a 19 b 19")
        self.check(program, Goods(program), boxes(program))
        self.assertIs(lets_atlas(program, atlas(program)), True)
        program = jobs("take a 1 { }", "take b 9 { } take a 9 { take a 9 { } } take b 2 { take b 9 { take b 9 { } } }")
        for call in (boxes, atlas):
            self.raises(TooMany, 400, call, program)
        self.raises(TooMany, 400, lets_atlas, program, None)


class TestAtlas(Case):
    def test_crossed(self):
        table, told = atlas(program=PROGRAM)
        self.assertEqual((table, isinstance(atlas(PROGRAM), tuple)), (gates(PROGRAM), True))
        self.assertIs(lets_atlas(program=PROGRAM, thing=(table, told)), True)
        self.assertIs(lets_atlas(PROGRAM, (table[::-1] * 2, told[::-1] * 2)), True)
        turned = [(dict(reversed(list(there.items()))), rows[::-1]) for there, rows in table]
        self.assertIs(lets_atlas(PROGRAM, (turned, [(low, dict(reversed(list(high.items()))), moves) for low, high, moves in told])), True)

    def test_left_out(self):
        for program in (PROGRAM, DOCUMENT):
            table, told = atlas(program)
            for at in range(len(told)):
                self.assertIs(lets_atlas(program, (table, told[:at] + told[at + 1:])), False)
            for at, (there, rows) in enumerate(table):
                self.assertIs(lets_atlas(program, (table[:at] + table[at + 1:], told)), False)
                self.assertIs(lets_atlas(program, (table[:at] + [(there, [])] + table[at + 1:], told)), False)
                for pool in program.pools:
                    greater = [(there, [row(pool) for row in rows])]
                    self.assertIs(lets_atlas(program, (table[:at] + greater + table[at + 1:], told)), False)
                    self.assertIs(lets_atlas(program, (table + greater, told)), True)

    def test_states_that_are_never_there(self):
        # A state that is dead, and is told to be reached with less than it takes to be.
        table, told = atlas(PROGRAM)
        more = [(there, [*rows, Sizes({})]) for there, rows in table]
        self.assertIs(lets_atlas(PROGRAM, (more, told)), True)
        # What jobs hold has to be there: with 1 of each nobody is told to be stuck but in a box.
        self.assertIs(lets_atlas(PROGRAM, (more, told[:-1])), False)
        # With 2 of a two jobs never both hold one: who comes second waits for two. With 3 they do.
        program = jobs("take a 2 { give a 1; take a 1 { } }", limit=2)
        there = {("one", 1): 2}
        table, told = atlas(program)
        self.assertEqual([texts(rows) for one, rows in table if one == there], [["a 3"]])
        self.assertEqual([is_good(program, Sizes({"a": number})) for number in range(4)], [False, False, True, True])
        self.assertIs(lets_atlas(program, (table, told)), True)
        for amounts, right in (({"a": 1}, False), ({"a": 2}, False), ({"a": 3}, True), ({"a": 4}, True)):
            more = table + [(there, [Sizes(amounts)])]
            self.assertIs(lets_gates(program, more), True)
            self.assertIs(lets_atlas(program, (more, told)), right)

    def test_by_chance(self):
        sound = 0
        for program, goods in some_programs(60):
            rng = random.Random(4)
            table, told = atlas(program)
            self.assertIs(lets_atlas(program, (table, told)), True)
            for at in range(len(told)):
                self.assertIs(lets_atlas(program, (table, told[:at] + told[at + 1:])), False)
            for _ in range(5):
                # Whatever is let through tells the good sizes.
                some = [(there, [row(rng.choice(program.pools)) if rng.random() < 0.1 else row for row in rows]) for there, rows in table]
                if lets_atlas(program, (some, told)):
                    sound += 1
                    self.assertTrue(all(lies_in(program, told, sizes) is not good for sizes, good in list(goods.grid())[::7]))
        self.assertGreater(sound, 10)

    def test_papers_of_others(self):
        # One box for each bad size alone.
        for program in (PROGRAM, DOCUMENT):
            told = []
            for sizes, good in Goods(program).grid():
                if not good:
                    told.append((sizes, {pool: sizes[pool] for pool in program.pools}, verdict(program, sizes)[1]))
            self.assertIs(lets_atlas(program, (gates(program), told)), True)
            self.assertIs(lets_atlas(program, (gates(program), told[1:])), False)
            self.assertIs(lets_atlas(program, (gates(program), told + boxes(program))), True)
            for at in range(len(told)):
                self.assertIs(lets_atlas(program, (gates(program), told[:at] + told[at + 1:])), False)

    def test_other_values(self):
        table, told = atlas(PROGRAM)
        for thing in [*ANYTHING, [table, told], (table, told, 1), (table,), (told, table), (tuple(table), told), (table, tuple(told)), (table, None), (None, told), (table, [ODD]), ([ODD], told)]:
            self.assertIs(lets_atlas(PROGRAM, thing), False)
        for thing in ANYTHING:
            self.assertIs(lets_atlas(PROGRAM, (table, [*told, thing])), False)
            self.assertIs(lets_atlas(PROGRAM, ([*table, thing], told)), False)
            self.assertIs(lets_atlas(PROGRAM, (table, thing)), False)
            self.assertIs(lets_atlas(PROGRAM, (thing, told)), False)
            self.raises(InvalidProgram, thing, lets_atlas, thing, ODD)
            self.raises(TooMany, 400, lets_atlas, WIDE, thing)
        self.assertIs(lets_atlas(LARGE, ([({}, [Sizes({})])], [])), False)
        self.assertIs(lets_atlas(PROGRAM.with_limit("load", 2), (table, told)), False)
        self.assertIs(is_good(PROGRAM, ONE), False)
