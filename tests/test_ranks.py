"""[15] which pools lead to which, and guarantee (d) of [4] for pools with ranks."""

from itertools import permutations

from leastpools.errors import InvalidProgram, TooMany
from leastpools.grids import Goods
from leastpools.parsing import parse
from leastpools.ranks import edges, greatest_want, lets_ranks, ranks, ring
from leastpools.sizes import Sizes
from tests.helpers import ANYTHING, CROSSED, ODD, Case, jobs
from tests.model import Model, random_program

PROGRAM = parse(CROSSED)


def slow_edges(program):
    """The edges, by all ways in which a job rests."""
    found = set()
    for name in program.names():
        model = Model(program, name)
        for way in model.ways().values():
            rows = {strand: (want, held) for strand, want, held in model.strands(way)}
            for strand, (want, _) in rows.items():
                for many in range(len(strand) + 1):
                    held = rows[strand[:many]][1]
                    found.update((one, other) for one in held for other in (want or ()))
    return found


def slow_ring(program):
    """The first of the shortest lists of different pools that make a ring."""
    found = slow_edges(program)
    for many in range(1, len(program.pools) + 1):
        for some in permutations(program.pools, many):
            if all((some[at - 1], some[at]) in found for at in range(many)):
                return list(some)
    return []


class TestEdges(Case):
    def test_crossed(self):
        self.assertEqual(edges(PROGRAM), [("a", "b"), ("b", "a")])
        self.assertEqual(edges(jobs("take a 1 { } take b 1 { }")), [])

    def test_order_of_the_pools(self):
        program = jobs("take b 1 { take a 1 { take c 1 { } } }", pools="c b a")
        self.assertEqual(edges(program), [("b", "c"), ("b", "a"), ("a", "c")])

    def test_limits_play_no_part(self):
        program = PROGRAM.with_limit("load", 0).with_limit("save", 0)
        self.assertEqual(edges(program), [("a", "b"), ("b", "a")])
        self.assertEqual(str(greatest_want(program)), "a 1 b 1")

    def test_what_was_given_early_is_not_held(self):
        self.assertEqual(edges(jobs("take a 2 { give a 2; take b 1 { } }")), [])
        self.assertEqual(edges(jobs("take a 2 { give a 1; take b 1 { } }")), [("a", "b")])
        self.assertEqual(edges(jobs("take a 1 { take b 1 { } give a 1; take c 1 { } }", pools="a b c")), [("a", "b")])
        # What is given inside is still held outside.
        self.assertEqual(edges(jobs("take a 1 { take a 1 { give a 1; take b 1 { } } }")), [("a", "a"), ("a", "b")])

    def test_within_both(self):
        program = jobs("take a 1 { both { take b 1 { } } and { take c 1 { } } }", pools="a b c")
        self.assertEqual(edges(program), [("a", "b"), ("a", "c")])
        program = jobs("both { take a 1 { both { } and { take b 1 { } } } } and { take c 1 { } } take c 1 { }", pools="a b c")
        self.assertEqual(edges(program), [("a", "b")])
        # Both strands are no parts of one another.
        self.assertEqual(edges(jobs("both { take a 1 { } } and { take b 1 { } }")), [])
        self.assertEqual(edges(jobs("take a 1 { give a 1; both { take b 1 { } } and { } }")), [])

    def test_called_jobs(self):
        program = jobs("take b 1 { }", "take a 1 { call one on c; }", pools="a b c")
        self.assertEqual(edges(program), [("a", "b"), ("a", "c"), ("c", "b")])
        self.assertEqual(edges(jobs("take b 1 { }", "call one on b;")), [("b", "b")])

    def test_takes_of_several_pools(self):
        program = jobs("take a 1 b 1 { take c 1 d 2 { } }", pools="a b c d")
        self.assertEqual(edges(program), [("a", "c"), ("a", "d"), ("b", "c"), ("b", "d")])
        self.assertEqual(str(greatest_want(program)), "a 1 b 1 c 1 d 2")

    def test_by_chance(self):
        for seed in range(200):
            program = random_program(seed)
            found = slow_edges(program)
            self.assertEqual(edges(program), [(one, other) for one in program.pools for other in program.pools if (one, other) in found])


class TestRanks(Case):
    def test_ranks(self):
        program = jobs("take b 1 { take a 1 { } take c 1 { take a 2 { } } }", pools="a b c d")
        self.assertEqual(ranks(program), {"a": 2, "b": 0, "c": 1, "d": 0})
        self.assertEqual(list(ranks(program)), ["a", "b", "c", "d"])
        self.assertEqual(str(greatest_want(program)), "a 2 b 1 c 1")
        self.assertEqual(ranks(jobs("run;")), {"a": 0, "b": 0})

    def test_none(self):
        for program in (PROGRAM, jobs("take a 1 { take a 1 { } }"), jobs("take b 1 { take a 1 { } }", "call one on a;")):
            self.assertIsNone(ranks(program))

    def test_longest_way(self):
        program = jobs("take a 1 { take b 1 { take c 1 { take d 1 { } } } take d 1 { } }", pools="d c b a")
        self.assertEqual(ranks(program), {"a": 0, "b": 1, "c": 2, "d": 3})

    def test_greatest_want_is_enough(self):
        many = 0
        for seed in range(300):
            program = random_program(seed, most_jobs=2)
            if ranks(program) is None or not all(program.limit(name) for name in program.names()):
                continue
            try:
                goods = Goods(program)
            except TooMany:
                continue
            many += 1
            for sizes, good in goods.grid():
                self.assertIs(good, greatest_want(program).fits(sizes))
        self.assertGreater(many, 100)


class TestRing(Case):
    def test_none(self):
        self.assertEqual(ring(jobs("take a 1 { take b 1 { } }")), [])

    def test_crossed(self):
        self.assertEqual(ring(PROGRAM), ["a", "b"])
        self.assertEqual(ring(parse(CROSSED.replace("pools a b", "pools b a"))), ["b", "a"])

    def test_a_pool_that_leads_to_itself(self):
        self.assertEqual(ring(jobs("take b 1 { take b 1 { } }")), ["b"])
        self.assertEqual(ring(jobs("take b 1 { take b 1 { } take a 1 { } }", "take a 1 { take b 1 { } }")), ["b"])
        self.assertEqual(ring(jobs("take b 1 { take b 1 { } take a 1 { take a 1 { } } }", "take a 1 { take b 1 { } }")), ["a"])

    def test_the_shortest(self):
        long = "take a 1 { take b 1 { } } take b 1 { take c 1 { } } take c 1 { take a 1 { } }"
        self.assertEqual(ring(jobs(long, pools="a b c d")), ["a", "b", "c"])
        self.assertEqual(ring(jobs(long, pools="c b a")), ["c", "a", "b"])
        self.assertEqual(ring(jobs(long + " take d 1 { take c 1 { } } take c 1 { take d 1 { } }", pools="a b c d")), ["c", "d"])

    def test_the_first_of_one_length(self):
        both = "take a 1 { take d 1 { } } take d 1 { take a 1 { } } take b 1 { take c 1 { } } take c 1 { take b 1 { } }"
        self.assertEqual(ring(jobs(both, pools="a b c d")), ["a", "d"])
        self.assertEqual(ring(jobs(both, pools="b a d c")), ["b", "c"])
        self.assertEqual(ring(jobs(both + " take d 1 { take d 1 { } }", pools="b a d c")), ["d"])
        both = "take a 1 { take c 1 { } take d 1 { } } take c 1 { take a 1 { } } take d 1 { take a 1 { } }"
        self.assertEqual(ring(jobs(both, pools="d c a")), ["d", "a"])
        self.assertEqual(ring(jobs(both, pools="a d c")), ["a", "d"])

    def test_by_chance(self):
        lengths = []
        for seed in range(300):
            program = random_program(seed)
            lengths.append(len(ring(program)))
            self.assertEqual(ring(program), slow_ring(program))
            self.assertIs(ranks(program) is None, lengths[-1] > 0)
        self.assertLessEqual({0, 1}, set(lengths))


class TestLetsRanks(Case):
    program = jobs("take b 1 { take a 1 { } take c 1 { take a 2 { } } }", pools="a b c d")

    def test_right_ones(self):
        for thing in ({"a": 2, "b": 0, "c": 1, "d": 0}, {"d": 99, "c": -3, "b": -4, "a": 7}, {"b": -10 ** 30, "c": 10 ** 30, "a": 10 ** 30 + 1, "d": 0}):
            self.assertIs(lets_ranks(self.program, thing), True)
        self.assertIs(lets_ranks(jobs("run;"), {"a": 5, "b": 5}), True)

    def test_wrong_ones(self):
        right = {"a": 2, "b": 0, "c": 1, "d": 0}
        for more in ({"a": 1}, {"a": 0}, {"b": 1}, {"c": 0}, {"e": 0}, {"d": None}, {"d": True}, {"d": "0"}, {"d": 0.0}, {"d": ODD}, {"b": False},
                     {"c": True}, {1: 1}, {None: 0}, {("a",): 0}, {"a": 10 ** 30, "c": 10 ** 30}, {"b": -1.5}):
            self.assertIs(lets_ranks(self.program, {**right, **more}), False)
        for pool in right:
            self.assertIs(lets_ranks(self.program, {name: right[name] for name in right if name != pool}), False)
        for thing in [*ANYTHING, list(right), list(right.items()), Sizes({"a": 2, "c": 1})]:
            self.assertIs(lets_ranks(self.program, thing), False)

    def test_where_there_are_none(self):
        for thing in ({"a": 0, "b": 1}, {"a": 1, "b": 0}, {"a": 0, "b": 0}):
            self.assertIs(lets_ranks(PROGRAM, thing), False)
        self.assertIs(lets_ranks(jobs("take a 1 { take a 1 { } }"), {"a": 0, "b": 1}), False)

    def test_own_ranks_are_right(self):
        for seed in range(100):
            program = random_program(seed)
            told = ranks(program)
            self.assertIs(lets_ranks(program, told), told is not None)


class TestWrongInputs(Case):
    def test_no_program(self):
        for thing in ANYTHING:
            for call in (edges, greatest_want, ranks, ring):
                self.raises(InvalidProgram, thing, call, thing)
            self.raises(InvalidProgram, thing, lets_ranks, thing, None)
            self.raises(InvalidProgram, thing, lets_ranks, thing, {})

    def test_names_of_arguments(self):
        self.assertEqual((len(edges(program=PROGRAM)), ranks(program=PROGRAM), len(ring(program=PROGRAM))), (2, None, 2))
        self.assertEqual(greatest_want(program=PROGRAM), Sizes({"a": 1, "b": 1}))
        self.assertIs(lets_ranks(program=PROGRAM, thing={}), False)

    def test_results_are_new(self):
        edges(PROGRAM).clear()
        ring(PROGRAM).clear()
        ranks(jobs("run;")).clear()
        self.assertEqual((len(edges(PROGRAM)), len(ring(PROGRAM)), len(ranks(jobs("run;")))), (2, 2, 2))
