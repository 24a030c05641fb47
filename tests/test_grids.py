"""[13] all good sizes, and guarantees (c) and (d) of [4]."""

import random
from itertools import product

from leastpools.errors import InvalidProgram, TooMany
from leastpools.grids import Goods, caps
from leastpools.parsing import parse
from leastpools.sizes import Sizes
from leastpools.verdicts import is_good
from tests.helpers import ANYTHING, CROSSED, NESTED, ODD, Case
from tests.model import random_program

DOCUMENT = parse("pools s t; job load limit 2 { take s 1 { take t 1 { take t 1 { } } } }")
PROGRAM = parse(CROSSED)


def texts(some):
    return [str(one) for one in some]


def slow_grid(program, greatest=None):
    """All sizes up to the caps, in order."""
    greatest = greatest or caps(program)
    rows = product(*[range(greatest[pool] + 1) for pool in program.pools])
    return [Sizes(dict(zip(program.pools, row))) for row in rows]


def nested(pool, total):
    """Takes inside one another that need so much."""
    if total == 0:
        return ""
    most = min(total, 9)
    return f"take {pool} {most} {{ {nested(pool, total - most)} }}"


def small_programs(many, most):
    """Programs by chance with a grid and with states that are not too many."""
    found = []
    seed = 0
    while len(found) < many:
        program = random_program(seed, most_jobs=2)
        seed += 1
        greatest = caps(program)
        number = 1
        for pool in program.pools:
            number = number * (greatest[pool] + 1)
        if 1 < number <= most and all(len(program.code(name).positions()) < 9 for name in program.names()):
            found.append(program)
    return found


class TestCaps(Case):
    def test_examples(self):
        self.assertEqual(str(caps(DOCUMENT)), "s 2 t 4")
        self.assertEqual(str(caps(PROGRAM)), "a 2 b 2")
        self.assertEqual(str(caps(parse(NESTED))), "a 2 b 6")
        self.assertEqual(str(caps(program=PROGRAM.with_limit("load", 0))), "a 1 b 1")
        self.assertEqual(str(caps(parse("pools a; job one limit 6 { }"))), "-")
        self.assertEqual(str(caps(PROGRAM.with_limit("load", 6).with_limit("save", 4))), "a 10 b 10")

    def test_no_program(self):
        for thing in ANYTHING:
            self.raises(InvalidProgram, thing, caps, thing)
            self.raises(InvalidProgram, thing, Goods, thing)


class TestGoods(Case):
    def test_document(self):
        goods = Goods(DOCUMENT)
        anomalies = [(str(one), pool) for one, pool in goods.anomalies()]
        told = [str(goods.caps), texts(goods.least()), anomalies, len(goods)]
        self.assertEqual(told, ["s 2 t 4", ["s 1 t 2"], [("s 1 t 2", "s")], 5])
        self.assertEqual(texts(goods), ["s 1 t 2", "s 1 t 3", "s 1 t 4", "s 2 t 3", "s 2 t 4"])
        self.assertEqual(str(goods.tight), "s 2 t 3")
        self.assertIs(goods.program, DOCUMENT)

    def test_in(self):
        goods = Goods(program=DOCUMENT)
        for text, told in (({"s": 1, "t": 2}, True), ({"s": 2, "t": 2}, False), ({"s": 9, "t": 2}, False), ({"s": 1, "t": 99}, True),
                           ({"s": 99, "t": 99, "z": 1}, True), ({"z": 3}, False), ({}, False), ({"s": 10 ** 30, "t": 3}, True)):
            self.assertIs(Sizes(text) in goods, told)
        for thing in ANYTHING:
            self.assertIs(thing in goods, False)

    def test_grid(self):
        goods = Goods(DOCUMENT)
        rows = list(goods.grid())
        self.assertEqual([one for one, _ in rows], slow_grid(DOCUMENT))
        self.assertEqual(rows[:3], [(Sizes({}), False), (Sizes({"t": 1}), False), (Sizes({"t": 2}), False)])
        self.assertEqual([one for one, told in rows if told], list(goods))
        self.assertTrue(all(told is True or told is False for _, told in rows))

    def test_order_of_the_pools_of_the_program(self):
        goods = Goods(parse("pools t s; job load limit 2 { take s 1 { take t 1 { take t 1 { } } } }"))
        self.assertEqual(texts(goods), ["s 1 t 2", "s 1 t 3", "s 2 t 3", "s 1 t 4", "s 2 t 4"])

    def test_all_good(self):
        goods = Goods(parse("pools a b; job one limit 6 { run; }"))
        self.assertEqual((len(goods), texts(goods), texts(goods.least()), str(goods.tight)), (1, ["-"], ["-"], "-"))
        self.assertTrue(Sizes({}) in goods and Sizes({"a": 7}) in goods)
        goods = Goods(PROGRAM.with_limit("load", 0))
        self.assertEqual((texts(goods), str(goods.tight)), (["a 1 b 1"], "a 1 b 1"))

    def test_least_ones(self):
        goods = Goods(PROGRAM)
        self.assertEqual(texts(goods.least()), ["a 1 b 2", "a 2 b 1"])
        self.assertEqual(list(goods.anomalies()), [])
        self.assertEqual(texts(goods), ["a 1 b 2", "a 2 b 1", "a 2 b 2"])

    def test_lists_are_new(self):
        goods = Goods(DOCUMENT)
        goods.least().clear()
        self.assertEqual(len(goods.least()), 1)
        list(goods).clear()
        self.assertEqual(len(goods), 5)

    def test_methods_are_its_own(self):
        for name in ("program", "caps", "tight", "grid", "least", "anomalies", "beyond", "__contains__", "__len__", "__iter__", "__eq__"):
            self.assertIn(name, vars(Goods))


class TestMany(Case):
    def test_400(self):
        program = parse(f"pools a b; job one limit 1 {{ {nested('a', 19)} }} job two limit 1 {{ {nested('b', 19)} }}")
        goods = Goods(program)
        self.assertEqual(len(list(goods.grid())), 400)
        self.assertEqual(texts(goods), ["a 19 b 19"])
        self.assertEqual(str(goods.tight), "a 19 b 19")

    def test_more(self):
        program = parse(f"pools a b; job one limit 1 {{ {nested('a', 20)} }} job two limit 1 {{ {nested('b', 19)} }}")
        self.raises(TooMany, 400, Goods, program)
        program = parse(f"pools a; job one limit 5 {{ {nested('a', 72)} }} job two limit 1 {{ {nested('a', 40)} }}")
        self.assertEqual(caps(program)["a"], 400)
        self.raises(TooMany, 400, Goods, program)

    def test_states(self):
        ways = "take a 1 { } " * 6
        program = parse(f"pools a; job one limit 6 {{ {ways} }} job two limit 6 {{ {ways} }}")
        self.assertEqual(str(caps(program)), "a 12")
        self.raises(TooMany, 2000, Goods, program)
        wide = "take a 9 { take a 9 { } } " * 4
        program = parse(f"pools a; job one limit 6 {{ {wide} }} job two limit 6 {{ {wide} }} job three limit 6 {{ {wide} }} "
                        f"job four limit 6 {{ {wide} }}")
        # The grid is asked for first.
        self.raises(TooMany, 400, Goods, program)

    def test_2000_states_at_the_caps(self):
        three = "take a 1 { } take a 1 { } take a 1 { }"
        text = f"pools a; job one limit 3 {{ {three} }} job two limit 3 {{ {three} }} job three limit NUMBER {{ take a 1 {{ }} }}"
        self.assertEqual(texts(Goods(parse(text.replace("NUMBER", "4"))).least()), ["a 1"])
        self.raises(TooMany, 2000, Goods, parse(text.replace("NUMBER", "5")))


class TestBeyond(Case):
    def test_beyond(self):
        goods = Goods(DOCUMENT)
        other = Goods(DOCUMENT.with_limit("load", 1))
        self.assertEqual(list(goods.beyond(other)), [])
        # On the grid up to the greater caps of both.
        self.assertEqual(texts(other.beyond(goods)), ["s 2 t 2"])
        self.assertEqual(list(goods.beyond(other=goods)), [])
        third = Goods(DOCUMENT.with_limit("load", 3))
        self.assertEqual(texts(goods.beyond(third)), ["s 3 t 3"])

    def test_order(self):
        first = Goods(parse("pools b a; job one limit 1 { }"))
        second = Goods(parse("pools b a; job one limit 1 { take a 1 b 1 { } }"))
        self.assertEqual(texts(first.beyond(second)), ["-", "a 1", "b 1"])
        first = Goods(parse("pools a b; job one limit 1 { }"))
        second = Goods(parse("pools a b; job one limit 1 { take a 1 b 1 { } }"))
        self.assertEqual(texts(first.beyond(second)), ["-", "b 1", "a 1"])

    def test_other_pools(self):
        goods = Goods(PROGRAM)
        for text in ("pools b a; job one limit 1 { }", "pools a; job one limit 1 { }", "pools a b c; job one limit 1 { }"):
            other = Goods(parse(text))
            self.raises_when_iterated(InvalidProgram, other, goods.beyond, other)
        for thing in [*ANYTHING, PROGRAM]:
            self.raises_when_iterated(InvalidProgram, thing, goods.beyond, thing)

    def test_too_many(self):
        one = Goods(parse(f"pools a b; job one limit 1 {{ {nested('a', 30)} }}"))
        two = Goods(parse(f"pools a b; job one limit 1 {{ {nested('b', 12)} }}"))
        three = Goods(parse(f"pools a b; job one limit 1 {{ {nested('b', 30)} }}"))
        self.raises_when_iterated(TooMany, 400, one.beyond, three)
        self.raises_when_iterated(TooMany, 400, one.beyond, two)
        four = Goods(parse(f"pools a b; job one limit 1 {{ {nested('b', 11)} }}"))
        self.assertEqual(len(list(one.beyond(four))), 11)
        five = Goods(parse(f"pools a b; job one limit 1 {{ {nested('a', 19)} }}"))
        six = Goods(parse(f"pools a b; job one limit 1 {{ {nested('b', 19)} }}"))
        self.assertEqual(len(list(five.beyond(six))), 19)


class TestEquality(Case):
    def test_same_sizes(self):
        self.assertTrue(Goods(PROGRAM) == Goods(parse(CROSSED)))
        self.assertTrue(Goods(PROGRAM) == Goods(parse("pools b a; job one limit 1 { take a 1 { take b 1 { } } } "
                                                      "job two limit 1 { take b 1 { take a 1 { } } }")))
        self.assertFalse(Goods(PROGRAM) == Goods(PROGRAM.with_limit("load", 2)))
        self.assertFalse(Goods(PROGRAM) == Goods(PROGRAM.with_limit("load", 0)))

    def test_the_same_tight_ones(self):
        other = Goods(parse("pools a b; job one limit 1 { take a 2 { } take b 2 { } }"))
        self.assertEqual(Goods(PROGRAM).tight, other.tight)
        self.assertFalse(Goods(PROGRAM) == other)
        self.assertFalse(other == Goods(PROGRAM))

    def test_other_caps(self):
        one = Goods(parse("pools a; job one limit 1 { take a 2 { } }"))
        for text in ("pools a; job one limit 6 { take a 2 { } }", "pools a; job one limit 1 { take a 1 { take a 1 { } } }",
                     "pools b a; job one limit 3 { take a 2 { give a 1; } }"):
            self.assertTrue(one == Goods(parse(text)))
        self.assertFalse(one == Goods(parse("pools a; job one limit 1 { take a 1 { } }")))
        self.assertFalse(one == Goods(parse("pools b; job one limit 1 { take b 2 { } }")))

    def test_a_further_pool_that_nobody_wants(self):
        one = Goods(PROGRAM)
        other = Goods(parse(CROSSED.replace("pools a b", "pools z b a y")))
        self.assertTrue(one == other and other == one)
        wanted = Goods(parse(CROSSED.replace("pools a b", "pools a b z").replace("{ take a", "{ take z 1 { } take a", 1)))
        self.assertFalse(one == wanted)
        self.assertFalse(wanted == one)

    def test_all_good(self):
        self.assertTrue(Goods(parse("pools a; job one limit 1 { }")) == Goods(parse("pools b c; job two limit 0 { take b 1 { } }")))

    def test_anything(self):
        goods = Goods(PROGRAM)
        for thing in [*ANYTHING, PROGRAM]:
            if thing is not ODD:
                self.assertFalse(goods == thing)


class TestByChance(Case):
    def check(self, program, rng):
        goods = Goods(program)
        grid = slow_grid(program)
        told = {str(one): is_good(program, one) for one in grid}
        good = [one for one in grid if told[str(one)]]
        self.assertEqual([(str(one), answer) for one, answer in goods.grid()], list(told.items()))
        self.assertEqual((list(goods), len(goods)), (good, len(good)))
        least = [one for one in good if not any(other.fits(one) and other != one for other in good)]
        self.assertEqual(goods.least(), least)
        anomalies = [(one, pool) for one in good for pool in program.pools if told.get(str(one(pool))) is False]
        self.assertEqual(list(goods.anomalies()), anomalies)
        self.check_tight(goods, grid, told)
        for _ in range(10):
            one = Sizes({pool: rng.randint(0, 2 * goods.caps[pool] + 3) for pool in (*program.pools, "z")})
            self.assertIs(one in goods, is_good(program, one))
        return goods

    def check_tight(self, goods, grid, told):
        def enough(tight):
            return all(answer == told[str(one & tight)] for one, answer in goods.grid())
        enough_ones = [one for one in grid if enough(one)]
        self.assertIn(goods.tight, enough_ones)
        self.assertTrue(all(goods.tight.fits(one) for one in enough_ones))

    def test_goods(self):
        rng = random.Random(8)
        odd = 0
        for program in small_programs(50, 60):
            goods = self.check(program, rng)
            odd += len(list(goods.anomalies())) > 0
        self.assertGreater(odd, 0)

    def test_pairs(self):
        programs = small_programs(60, 40)
        seen = [0, 0]
        for one in programs:
            for other in programs[:30]:
                first, second = Goods(one), Goods(other)
                self.check_pair(first, second)
                seen[first == second] += 1
        self.assertTrue(all(many > 20 for many in seen))

    def check_pair(self, first, second):
        both = first.caps | second.caps
        rows = product(*[range(both[pool] + 1) for pool in both])
        everything = [Sizes(dict(zip(both, row))) for row in rows]
        self.assertIs(first == second, all((one in first) == (one in second) for one in everything))
        if first.program.pools == second.program.pools:
            self.assertEqual(list(first.beyond(second)), [one for one in slow_grid(first.program, both) if one in first and one not in second])

    def test_fewer_jobs(self):
        for program in small_programs(40, 40):
            for name in program.names():
                if program.limit(name) > 0:
                    fewer = Goods(program.with_limit(name, program.limit(name) - 1))
                    self.assertEqual(list(Goods(program).beyond(fewer)), [])
