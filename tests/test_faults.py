"""[32] faults: whether requests tell a runtime with a fault from a right one."""

import random

from leastpools.careful import is_safe
from leastpools.errors import InvalidFault, InvalidSizes, InvalidState, TooMany
from leastpools.faults import FAULTS, lets_seen, seen
from leastpools.granting import careful_moves
from leastpools.grids import caps
from leastpools.parsing import parse
from leastpools.sizes import Sizes
from leastpools.states import State
from leastpools.verdicts import is_good
from tests.helpers import ANYTHING, CROSSED, ODD, Case, jobs
from tests.model import random_program

PROGRAM = parse(CROSSED)
ONE = Sizes({"a": 1, "b": 1})
TWO = Sizes({"a": 2, "b": 1})
PLENTY = Sizes({"a": 9, "b": 9, "c": 9})
ENTERS = [("enter", "load", 0), ("enter", "save", 0)]
TAKES = [("take", "load", 0, (), 1), ("take", "save", 0, (), 1)]


def text_of(pair):
    there, amounts = pair
    return str(sorted(there.items(), key=str)), str(sorted(amounts.items()))


def is_done_right(state, move, careful):
    if careful:
        return move in list(careful_moves(state))
    return move in list(state.moves())


class Slow:
    """A runtime with a fault beside a right one, by the words of [32] alone."""

    def __init__(self, program, sizes, word):
        self.program, self.sizes, self.word = program, sizes, word
        self.careful = word in ("careless", "hasty", "timid")

    def requests(self, there):
        for name in self.program.names():
            for position in self.program.code(name).first():
                if position is not None:
                    yield ("enter", name, position)
        for name, position in there:
            for strand, _ in self.program.code(name).takers(position):
                for later in self.program.code(name).after(position, strand):
                    yield ("take", name, position, strand, later)
        for name, position in there:
            yield ("fail", name, position)

    def held(self, there):
        return sum((self.program.code(name).held_by(position) * many for (name, position), many in there.items()), start=Sizes({}))

    def without(self, there, place):
        return {one: many - (one == place) for one, many in there.items() if many > (one == place)}

    def behind(self, there, request):
        if request[0] == "enter":
            place = request[1:]
            return {**there, place: there.get(place, 0) + 1}
        rest = self.without(there, request[1:3])
        if request[-1] is not None and request[0] == "take":
            place = (request[1], request[4])
            rest[place] = rest.get(place, 0) + 1
        return rest

    def want(self, request):
        return dict(self.program.code(request[1]).takers(request[2]))[request[3]]

    def is_plain(self, there, request):
        if request[0] == "enter":
            return sum(many for (name, _), many in there.items() if name == request[1]) < self.program.limit(request[1])
        return self.want(request).fits(self.sizes - self.held(there))

    def right(self, there, request):
        if request[0] == "fail":
            return True
        return is_done_right(State(self.program, self.sizes, there), request, self.careful)

    def wrong(self, there, amounts, request):
        word, plain = self.word, request[0] == "fail" or self.is_plain(there, request)
        if request[0] == "fail" or (word == "over" and request[0] == "enter"):
            return True
        if request[0] == "take":
            free = (self.sizes - self.held(there)).by_name()
            if word == "forget":
                free = {pool: max(0, free[pool] - amounts.get(pool, 0)) for pool in free}
            if word == "double":
                free = {pool: free.get(pool, 0) + amounts.get(pool, 0) for pool in self.program.pools}
            pools = [pool for pool in self.program.pools if pool in self.want(request)]
            if word == "blind":
                pools = pools[:1]
            plain = all(self.want(request)[pool] <= free.get(pool, 0) for pool in pools)
        if word == "hasty" and plain:
            return is_safe(State(self.program, self.sizes, self.behind(there, request)))
        if word == "timid" and plain:
            later = self.behind(there, request)
            return sum((self.program.code(name).need * many for (name, _), many in later.items()), start=Sizes({})).fits(self.sizes)
        return plain

    def pair_behind(self, there, amounts, request):
        if request[0] == "fail" and self.word in ("forget", "double"):
            more = Sizes(amounts) + self.program.code(request[1]).held_by(request[2])
            amounts = (more if self.word == "forget" else more & caps(self.program)).by_name()
        return self.behind(there, request), dict(amounts)

    def search(self, most=400):
        """All pairs, the nearest ones first, and the length of the shortest list that sees the fault; None if there are too many."""
        found = [({}, {}, 0)]
        known = {text_of(({}, {}))}
        shortest = None
        for there, amounts, far in found:
            for request in self.requests(there):
                right, wrong = self.right(there, request), self.wrong(there, amounts, request)
                if right != wrong:
                    shortest = min(far + 1, shortest or far + 1)
                elif right:
                    later = self.pair_behind(there, amounts, request)
                    if text_of(later) not in known:
                        known.add(text_of(later))
                        found.append((*later, far + 1))
                        if len(found) > most:
                            return None
        return [(there, amounts) for there, amounts, _ in found], shortest

    def sees(self, requests):
        """Whether of a list of right requests just the last one is answered otherwise."""
        there, amounts = {}, {}
        for at, request in enumerate(requests):
            if request not in list(self.requests(there)):
                return False
            right = self.right(there, request)
            if right != self.wrong(there, amounts, request):
                return at == len(requests) - 1
            if right:
                there, amounts = self.pair_behind(there, amounts, request)
        return False


def some_questions(most=50, largest=60):
    """Tuples (program, sizes, word, what the slow search finds) by chance."""
    for seed in range(most):
        rng = random.Random(seed)
        program = random_program(seed, most_jobs=2)
        if any(len(program.code(name).positions()) > 8 for name in program.names()):
            continue
        sizes = Sizes({pool: rng.randint(1, 4) for pool in program.pools})
        for word in FAULTS:
            found = Slow(program, sizes, word).search(largest)
            if found is not None:
                yield program, sizes, word, found


class TestSeen(Case):
    def test_document(self):
        self.assertEqual([seen(PROGRAM, ONE, "careless")[0], len(seen(PROGRAM, ONE, "careless")[1]), seen(PROGRAM, ONE("a"), "careless")[0]], ["seen", 4, "never"])
        self.assertEqual(FAULTS, ("over", "blind", "forget", "double", "careless", "hasty", "timid"))

    def check(self, program, sizes, word, many):
        """A fault that is seen by so many requests, or never in so many pairs."""
        told = seen(program, sizes, word)
        self.assertEqual((told[0], len(told[1])), many)
        self.assertIs(lets_seen(program, sizes, word, told), True)
        found, shortest = Slow(program, sizes, word).search()
        if told[0] == "seen":
            self.assertEqual(shortest, len(told[1]))
            self.assertTrue(Slow(program, sizes, word).sees(told[1]))
        else:
            self.assertIsNone(shortest)
            self.assertEqual(sorted(map(text_of, told[1])), sorted(map(text_of, found)))

    def test_over(self):
        self.check(PROGRAM, ONE, "over", ("seen", 2))
        self.assertEqual(seen(PROGRAM.with_limit("save", 0), ONE, "over"), ("seen", [("enter", "save", 0)]))
        # Who never waits never enters.
        self.check(jobs("run;"), ONE, "over", ("never", 1))

    def test_blind(self):
        self.check(PROGRAM, ONE, "blind", ("never", 9))
        program = jobs("take b 1 a 1 { }", "take b 1 { take b 1 { } }", limit=1)
        # Of both pools a is the first one, also if b is told ahead of it.
        self.check(program, ONE, "blind", ("seen", 4))
        self.check(jobs("take b 1 a 1 { }", "take a 1 { take a 1 { } }", limit=1), ONE, "blind", ("never", 6))
        self.check(program, Sizes({"a": 1, "b": 3}), "blind", ("never", 6))
        self.check(program, Sizes({"b": 3}), "blind", ("never", 6))
        self.check(program, Sizes({"a": 1}), "blind", ("seen", 2))

    def test_forget(self):
        self.check(PROGRAM, ONE, "forget", ("seen", 5))
        self.check(jobs("take a 1 { }"), ONE, "forget", ("never", 2))
        self.check(jobs("take a 1 { take b 1 { } }"), Sizes({"a": 3}), "forget", ("seen", 11))
        self.check(jobs("take a 1 { take b 1 { } }", limit=0), ONE, "forget", ("never", 1))

    def test_double(self):
        self.check(PROGRAM, ONE, "double", ("seen", 8))
        # Nobody waits, so nothing is taken that is not there; what is too much is at most the cap.
        self.check(PROGRAM, Sizes({"a": 3, "b": 3}), "double", ("never", 81))
        rows = seen(PROGRAM, Sizes({"a": 3, "b": 3}), "double")[1]
        self.assertEqual(max(Sizes(amounts)["a"] for _, amounts in rows), caps(PROGRAM)["a"])
        self.check(jobs("take a 2 { take b 1 { } }", "take a 1 { }"), Sizes({"a": 2, "b": 1}), "double", ("seen", 7))

    def test_careless(self):
        self.check(PROGRAM, ONE, "careless", ("seen", 4))
        self.check(PROGRAM, TWO, "careless", ("never", 9))
        self.check(PROGRAM, Sizes({}), "careless", ("seen", 1))
        self.check(PROGRAM.with_limit("load", 0).with_limit("save", 0), Sizes({}), "careless", ("never", 1))

    def test_hasty(self):
        self.check(PROGRAM, ONE, "hasty", ("never", 8))
        # Of two choices one is safe.
        program = jobs("either { take a 1 { } } or { take a 2 { } }")
        self.check(program, Sizes({"a": 1}), "hasty", ("seen", 1))
        self.check(program, Sizes({"a": 2}), "hasty", ("never", 3))
        # The same of a take.
        program = jobs("take a 1 { either { } or { take b 1 { } } }", "take b 1 { take a 1 { } }")
        self.check(program, ONE, "hasty", ("seen", 4))
        self.check(program, TWO, "hasty", ("never", 9))
        self.check(program, Sizes({}), "hasty", ("never", 1))

    def test_timid(self):
        self.check(PROGRAM, ONE, "timid", ("seen", 2))
        self.check(PROGRAM, Sizes({"a": 2, "b": 2}), "timid", ("never", 9))
        # It asks for the needs of those that are there, not for those of all others.
        self.check(PROGRAM.with_limit("save", 0), ONE, "timid", ("never", 3))
        # A take that brings the job to its end asks for less.
        self.check(jobs("take a 1 { }", "take a 1 { }"), Sizes({"a": 1}), "timid", ("seen", 2))

    def test_sizes_from_the_caps_on(self):
        for sizes in (caps(PROGRAM), PLENTY):
            self.assertEqual([seen(PROGRAM, sizes, word)[0] for word in FAULTS], ["seen", "never", "seen", "never", "never", "never", "never"])

    def test_by_chance(self):
        words = []
        for program, sizes, word, (found, shortest) in some_questions():
            told = seen(program, sizes, word)
            words.append((word, told[0]))
            self.assertIs(lets_seen(program, sizes, word, told), True)
            if shortest is None:
                self.assertEqual(told[0], "never")
                self.assertEqual(sorted(map(text_of, told[1])), sorted(map(text_of, found)))
            else:
                self.assertEqual((told[0], len(told[1])), ("seen", shortest))
                self.assertTrue(Slow(program, sizes, word).sees(told[1]))
            if word == "careless":
                self.assertEqual(told[0] == "never", is_good(program, sizes))
        for word in FAULTS:
            # A choice of which one is safe and one is not comes up in no program here.
            self.assertGreater(words.count((word, "seen")), -1 if word == "hasty" else 3)
            self.assertGreater(words.count((word, "never")), 10)

    def test_2000(self):
        both = "both { " + "take a 1 { } " * 3 + "} and { " + "take a 1 { } " * 6 + "}"
        wide = parse(f"pools a b; job one limit 2 {{ take a 1 {{ }} }} job two limit 1 {{ {'take a 1 { } ' * 22} }} job three limit 1 {{ take b 1 {{ {both} }} }}")
        # 3 * 23 * 29 states; a fault that is seen at once does not help.
        for word in ("over", "blind", "careless"):
            self.raises(TooMany, 2000, seen, wide, PLENTY, word)
        self.assertIs(lets_seen(wide, PLENTY, "over", ("seen", [("enter", "two", 0)] * 2)), True)
        three = "take a 1 { take b 1 { take a 1 { } } }"
        text = f"pools a b; job one limit 3 {{ {three} }} job two limit 3 {{ {three} }} job three limit 4 {{ take a 1 {{ }} }}"
        self.assertEqual(len(seen(parse(text), Sizes({"a": 99, "b": 99}), "blind")[1]), 2000)
        # With double there are pairs that differ in the amounts alone.
        self.raises(TooMany, 2000, seen, parse(text), Sizes({"a": 99, "b": 99}), "double")

    def test_results_are_new(self):
        for call in ("blind", "over"):
            seen(PROGRAM, ONE, call)[1].clear()
        for there, amounts in seen(PROGRAM, Sizes({"a": 3, "b": 3}), "double")[1]:
            there.clear()
            amounts.clear()
        self.check(PROGRAM, Sizes({"a": 3, "b": 3}), "double", ("never", 81))
        self.check(PROGRAM, ONE, "blind", ("never", 9))

    def test_raises(self):
        for thing in [*ANYTHING, "Over", "overs", ("over",)]:
            self.raises(InvalidFault, thing, seen, PROGRAM, ONE, thing)
            self.raises(InvalidFault, thing, lets_seen, PROGRAM, ONE, thing, ODD)
            self.raises(InvalidState, thing, seen, thing, None, None)
            self.raises(InvalidSizes, thing, seen, PROGRAM, thing, None)
            self.raises(InvalidState, thing, lets_seen, thing, None, None, ODD)
            self.raises(InvalidSizes, thing, lets_seen, PROGRAM, thing, None, ODD)
        self.assertIsInstance(seen(program=PROGRAM, sizes=ONE, word="over"), tuple)


class TestLetsRequests(Case):
    def lets(self, requests, word="careless", program=PROGRAM, sizes=ONE):
        return lets_seen(program, sizes, word, ("seen", requests))

    def test_requests(self):
        self.assertIs(self.lets(ENTERS + TAKES), True)
        self.assertIs(self.lets(ENTERS[::-1] + TAKES[::-1]), True)
        self.assertIs(lets_seen(program=PROGRAM, sizes=ONE, word="careless", thing=("seen", ENTERS + TAKES)), True)
        # Those that are not done may stand in it, and those that lead nowhere.
        self.assertIs(self.lets([ENTERS[0], *ENTERS, ENTERS[1], *TAKES]), True)
        self.assertIs(self.lets([ENTERS[0], ("fail", "load", 0), *ENTERS, TAKES[0], ("fail", "load", 1), ENTERS[0], *TAKES]), True)

    def test_left_out_doubled_put_in(self):
        right = ENTERS + TAKES
        for at in range(4):
            self.assertIs(self.lets(right[:at] + right[at + 1:]), False)
        self.assertIs(self.lets([]), False)
        self.assertIs(self.lets(right + [right[-1]]), False)
        self.assertIs(self.lets(right + [("fail", "load", 1)]), False)
        self.assertIs(self.lets(right[:3] + [("fail", "load", 1)] + right[3:]), False)
        self.assertIs(self.lets(right[:3] + [("fail", "load", 0)] + right[3:]), False)
        # In a runtime without this fault nothing is answered otherwise.
        self.assertIs(self.lets(right, sizes=TWO), False)
        self.assertIs(self.lets(right, word="blind"), False)
        self.assertIs(self.lets(right[:3], word="timid"), False)
        self.assertIs(self.lets(right[:2], word="timid"), True)

    def test_requests_of_no_form(self):
        others = [("enter", "load", 1), ("enter", "load", None), ("enter", "none", 0), ("enter", "load"), ("enter", "load", 0, 0), ["enter", "load", 0], ("enter", "load", False), ("take", "load", 0, (), 0),
                  ("take", "load", 0, (0,), 1), ("take", "load", 0, [], 1), ("take", "load", 0, (), True), ("take", "load", False, (), 1), ("take", "load", 0, (), ODD), ("take", "load", 0, ODD, 1),
                  ("take", "load", ODD, (), 1), ("take", "load", 1, (), None), ("take", 1, (), 1), ("take", "load", 0, ()), ("take", "load", 0, (), 1, 1), ("take", "save", 0, (), None), ("fail", "load", 1),
                  ("fail", "load", False), ("fail", "load"), ("fail", 1), ("fail", "load", 0, 0), ("fail", "load", ODD), ("fail", ODD, 0), ("leave", "load", 0), ("again", "load", 0, 0)]
        for thing in [*ANYTHING, *others]:
            self.assertIs(self.lets([*ENTERS, thing, *TAKES]), False)
            self.assertIs(self.lets([*ENTERS, *TAKES, thing]), False)
            self.assertIs(self.lets([thing], word="over"), False)
        self.assertIs(self.lets([("enter", "save", 0), ("enter", "save", 0)], word="over"), True)

    def test_by_chance(self):
        both = [0, 0]
        for program, sizes, word, _ in some_questions(30):
            told = seen(program, sizes, word)
            if told[0] != "seen":
                continue
            rng = random.Random(3)
            for _ in range(4):
                requests = list(told[1])
                at = rng.randrange(len(requests))
                requests[at:at + rng.choice((0, 1))] = rng.choice(([], [requests[at]], [rng.choice(requests)], [("fail", *requests[0][1:3])]))
                right = Slow(program, sizes, word).sees(requests)
                both[right] += 1
                self.assertIs(self.lets(requests, word, program, sizes), right)
        self.assertGreater(min(both), 30)

    def test_other_values(self):
        right = ENTERS + TAKES
        for thing in [*ANYTHING, ["seen", right], ("seen", tuple(right)), ("seen", right, 1), ("seen",), ("Seen", right), ("never", right), (ODD, right), ("seen", ODD), ("seen", dict(enumerate(right)))]:
            self.assertIs(lets_seen(PROGRAM, ONE, "careless", thing), False)
            self.assertIs(lets_seen(PROGRAM, ONE, "careless", ("seen", thing)), False)


class TestLetsRows(Case):
    def lets(self, rows, word="blind", program=PROGRAM, sizes=ONE):
        return lets_seen(program, sizes, word, ("never", rows))

    def test_order_and_repeats(self):
        for word, sizes in (("blind", ONE), ("hasty", ONE), ("careless", TWO), ("double", Sizes({"a": 3, "b": 3})), ("timid", PLENTY)):
            rows = seen(PROGRAM, sizes, word)[1]
            self.assertIs(self.lets(rows[::-1] + rows, word, sizes=sizes), True)
            turned = [(dict(reversed(list(there.items()))), {"z": 0, **dict(reversed(list(amounts.items())))}) for there, amounts in rows]
            self.assertIs(self.lets(turned, word, sizes=sizes), True)
            for at in range(len(rows)):
                self.assertIs(self.lets(rows[:at] + rows[at + 1:], word, sizes=sizes), False)
            self.assertIs(self.lets([], word, sizes=sizes), False)

    def test_where_the_fault_is_seen(self):
        for word in ("over", "forget", "double", "careless", "timid"):
            there = [row[0] for row in seen(PROGRAM, ONE, "blind")[1]]
            self.assertIs(self.lets([(one, {}) for one in there], word), False)
        # In a state that is never there with care, the careless one does what the other one holds back.
        program = PROGRAM.with_limit("load", 2)
        rows = seen(program, TWO, "hasty")[1]
        self.assertIs(self.lets(rows, "hasty", program, TWO), True)
        self.assertIs(self.lets(rows, "careless", program, TWO), False)

    def test_further_states_and_amounts(self):
        rows = seen(PROGRAM, ONE, "hasty")[1]
        more = ({("load", 1): 1, ("save", 1): 1}, {})
        self.assertNotIn(more, rows)
        # Behind its fails stand states that are known; it is not safe, so nothing else is done.
        self.assertIs(self.lets(rows + [more], "hasty"), True)
        program = jobs("take a 2 { }", limit=2)
        self.assertIs(self.lets([({}, {}), ({("one", 0): 1}, {}), ({("one", 0): 2}, {})], "blind", program), True)
        # Jobs that are not within the limits, or hold more than there is.
        for there in ({("load", 0): 2}, {("load", 1): 2}, {("load", 2): 1}, {("load", 0): 0}, {("load", 0): True}, {("load", False): 1}, {("none", 0): 1}, {"load": 1}, [("load", 0)], None, ODD):
            self.assertIs(self.lets(seen(PROGRAM, ONE, "blind")[1] + [(there, {})]), False)
        rows = seen(PROGRAM, Sizes({"a": 1}), "blind")[1]
        self.assertIs(self.lets(rows, sizes=Sizes({"a": 1})), True)
        self.assertIs(self.lets(rows + [({("save", 1): 1}, {})], sizes=Sizes({"a": 1})), False)

    def test_amounts(self):
        # With most faults amounts are left out of account, also of other pools.
        rows = seen(PROGRAM, ONE, "blind")[1]
        self.assertIs(self.lets([(there, {"a": at, "z": 1}) for at, (there, _) in enumerate(rows)]), True)
        # With double those above a cap stand for the cap, so others are not needed.
        sizes = Sizes({"a": 3, "b": 3})
        rows = seen(PROGRAM, sizes, "double")[1]
        above = [(there, {pool: 99 if amount == 2 else amount for pool, amount in amounts.items()}) for there, amounts in rows]
        self.assertNotEqual(above, rows)
        self.assertIs(self.lets(above, "double", sizes=sizes), True)
        self.assertIs(self.lets([(there, {**amounts, "z": 3}) for there, amounts in rows], "double", sizes=sizes), True)
        self.assertIs(self.lets([(there, {pool: 1 if amount == 2 else amount for pool, amount in amounts.items()}) for there, amounts in rows], "double", sizes=sizes), False)

    def test_amounts_of_forget(self):
        # A job that holds nothing whenever it can fail.
        program = jobs("take a 1 { }", limit=2)
        rows = seen(program, ONE, "forget")[1]
        self.assertEqual(len(rows), 3)
        self.assertIs(self.lets(rows, "forget", program), True)
        # Other pools make other pairs, and these lead to others of their kind.
        other = [(there, {"z": 2}) for there, _ in rows]
        self.assertIs(self.lets(rows + other, "forget", program), True)
        self.assertIs(self.lets(other, "forget", program), False)
        self.assertIs(self.lets(rows + other[1:], "forget", program), False)
        self.assertIs(self.lets(rows + [(there, {"b": 2}) for there, _ in rows], "forget", program), True)
        self.assertIs(self.lets(rows + [(there, {"b": 2}) for there, _ in rows[1:]], "forget", program), False)
        # What is lost is not free for the one, but for the other one.
        self.assertIs(self.lets(rows + [(there, {"a": 1}) for there, _ in rows], "forget", program), False)
        self.assertIs(self.lets(rows + [(there, {"a": 1}) for there, _ in rows], "forget", program, TWO), True)
        # With nothing of it there, no more is lost than is free.
        program = jobs("take a 1 { take b 1 { } }")
        rows = [({}, {}), ({("one", 0): 1}, {})]
        self.assertIs(self.lets(rows, "forget", program, Sizes({"b": 1})), True)
        self.assertIs(self.lets(rows + [(there, {"a": 7}) for there, _ in rows], "forget", program, Sizes({"b": 1})), True)

    def test_by_chance(self):
        both = [0, 0]
        for program, sizes, word, (found, shortest) in some_questions(30, 30):
            if shortest is not None:
                self.assertIs(self.lets(found, word, program, sizes), False)
                continue
            self.assertIs(self.lets(found, word, program, sizes), True)
            rng = random.Random(5)
            for _ in range(3):
                rows = list(found)
                at = rng.randrange(len(rows))
                there, amounts = rows[at]
                rows[at] = (there, {**amounts, rng.choice(program.pools): rng.randint(0, 3)})
                right = self.is_closed(Slow(program, sizes, word), rows)
                both[right] += 1
                self.assertIs(self.lets(rows, word, program, sizes), right)
        self.assertGreater(min(both), 10)

    def is_closed(self, slow, rows):
        def key(there, amounts):
            some = Sizes(amounts)
            if slow.word == "double":
                some = some & caps(slow.program)
            elif slow.word != "forget":
                some = Sizes({})
            return text_of((there, some.by_name()))
        known = {key(*row) for row in rows}
        if key({}, {}) not in known:
            return False
        for there, amounts in rows:
            if slow.word == "double":
                amounts = (Sizes(amounts) & caps(slow.program)).by_name()
            for request in slow.requests(there):
                right = slow.right(there, request)
                if right != slow.wrong(there, amounts, request) or (right and key(*slow.pair_behind(there, amounts, request)) not in known):
                    return False
        return True

    def test_other_values(self):
        rows = seen(PROGRAM, ONE, "blind")[1]
        others = [list(rows[0]), rows[0][:1], (*rows[0], 1), ({}, [("a", 1)]), ({}, {"a": -1}), ({}, {"a": True}), ({}, {"A": 1}), ({}, None), ({}, ODD), (ODD, {}), ({}, Sizes({})), (None, {}), ({}, {"a": ODD}), ({}, {1: 1})]
        for thing in [*ANYTHING, *others]:
            self.assertIs(self.lets(rows + [thing]), False)
            self.assertIs(self.lets([thing] + rows), False)
            self.assertIs(lets_seen(PROGRAM, ONE, "blind", ("never", thing)), False)
        for thing in (["never", rows], ("never", tuple(rows)), ("never", rows, 1), ("seen", rows), ("never",), ("Never", rows)):
            self.assertIs(lets_seen(PROGRAM, ONE, "blind", thing), False)
