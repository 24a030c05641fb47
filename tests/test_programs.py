"""[6] programs."""

from leastpools.errors import InvalidProgram, NoJob
from leastpools.programs import Program
from tests.helpers import ANYTHING, ODD, Case

RUN = ("run",)
TAKE = ("take", (("a", 1),), ())


def program(*codes, pools=("a", "b")):
    names = ("one", "two", "three", "four")
    return Program(pools, tuple((name, 1, code) for name, code in zip(names, codes)))


def inside(times, code=()):
    """Code in so many codes inside one another."""
    for _ in range(times):
        code = (("repeat", 1, code),)
    return code


def boths(times, code=(TAKE,)):
    for _ in range(times):
        code = (("both", code, (TAKE,)),)
    return code


class TestPools(Case):
    def test_right(self):
        jobs = (("one", 1, ()),)
        for pools in (("a",), ("a", "b", "c", "d"), ("b", "a"), ("abcdefgh",), ("one",)):
            self.assertEqual(Program(pools, jobs).pools, pools)

    def test_wrong(self):
        jobs = (("one", 1, ()),)
        wrong = [(), ("a", "b", "c", "d", "e"), ("a", "a"), ("take",), ("on",), ("A",), ("",), ("abcdefghi",), (1,), (None,),
                 ("a", ODD), (("a",),), ["a"], "a", ("a", 1)]
        wrong.extend(thing for thing in ANYTHING if thing is ODD or not isinstance(thing, tuple))
        for thing in wrong:
            self.raises(InvalidProgram, "pools", Program, thing, jobs)
            # Pools come ahead of jobs, whatever these are.
            self.raises(InvalidProgram, "pools", Program, thing, None)


class TestJobs(Case):
    def test_right(self):
        jobs = (("one", 0, ()), ("two", 6, (RUN,)), ("three", 1, (TAKE,)), ("a", 2, ()))
        made = Program(("a",), jobs)
        self.assertEqual(made.jobs, jobs)
        self.assertEqual(made.names(), ["one", "two", "three", "a"])
        self.assertEqual([made.limit(name) for name in made.names()], [0, 6, 1, 2])
        self.assertEqual(len(made), 4)

    def test_wrong(self):
        many = tuple((name, 1, ()) for name in ("one", "two", "three", "four", "five"))
        wrong = [(), many, (("one", 1, ()), ("one", 2, ())), [("one", 1, ())], (["one", 1, ()],), (("one", 1, []),),
                 (("one", 1),), (("one", 1, (), ()),), (("one", -1, ()),), (("one", 7, ()),), (("one", True, ()),),
                 (("one", False, ()),), (("one", 1.0, ()),), (("one", None, ()),), (("one", "1", ()),), (("job", 1, ()),),
                 (("One", 1, ()),), ((1, 1, ()),), ((ODD, 1, ()),), (("one", ODD, ()),), (("one", 1, ODD),), (ODD,),
                 (("one", 1, "run"),), (("one", 1, None),), (("one", 1, ()), ODD)]
        wrong.extend(ANYTHING)
        for thing in wrong:
            self.raises(InvalidProgram, "jobs", Program, ("a",), thing)
        # A code that is none comes behind all of "jobs".
        self.raises(InvalidProgram, "jobs", Program, ("a",), (("one", 1, (None,)), ("two", 7, ())))


class TestCode(Case):
    def right(self, *codes):
        self.assertEqual(program(*codes).jobs[-1][2], codes[-1])

    def wrong(self, *codes):
        self.raises(InvalidProgram, len(codes) - 1, program, *codes)

    def test_run(self):
        self.right((RUN, RUN))
        for thing in (("run", 1), ("Run",), ("run", ()), ["run"], "run", (), ("walk",), (ODD,), ODD, None, 1, (None,)):
            self.wrong((thing,))
            self.wrong((RUN, thing))

    def test_any_value_as_a_statement(self):
        for thing in ANYTHING:
            self.wrong((RUN, thing))
            self.wrong((("take", thing, ()),))
            self.wrong((("give", thing, 1),))
            if thing is ODD or thing != "a":
                self.wrong((("take", (("a", 2),), (("give", thing, 1),)),))
            if type(thing) is not int or thing != 1:
                self.wrong((("repeat", thing, ()),))
            self.wrong((("call", thing, "a"),))
            if thing is ODD or thing != ():
                self.wrong((("take", (("a", 1),), thing),))
                self.wrong((("repeat", 1, thing),))
                self.wrong((("either", (), thing),))
                self.wrong((("either", thing, ()),))
                self.wrong((("both", (), thing),))
                self.wrong((("both", thing, ()),))

    def test_take(self):
        self.right((("take", (("a", 1),), ()),))
        self.right((("take", (("b", 9), ("a", 1)), (RUN, TAKE)),))
        for amounts in ((), (("a", 0),), (("a", 10),), (("a", -1),), (("a", True),), (("a", 1.0),), (("a", "1"),), (("c", 1),),
                        (("a", 1), ("a", 2)), (("a", 1, 1),), (("a",),), ("a", 1), [("a", 1)], (["a", 1],), ((ODD, 1),),
                        (("a", ODD),), {"a": 1}, (("a", 1), None)):
            self.wrong((("take", amounts, ()),))
        self.wrong((("take", (("a", 1),)),))
        self.wrong((("take", (("a", 1),), (), ()),))
        self.wrong((("take", (("a", 1),), []),))

    def test_give(self):
        def taken(*code):
            return (("take", (("a", 3), ("b", 1)), code),)
        self.right(taken(("give", "a", 1)))
        self.right(taken(("give", "a", 3)))
        self.right(taken(("give", "a", 1), TAKE, ("give", "b", 1), ("give", "a", 2)))
        for number in (0, 4, -1, True, 1.0, "1", None, ODD):
            self.wrong(taken(("give", "a", number)))
        self.wrong(taken(("give", "a", 2), ("give", "a", 2)))
        self.wrong(taken(("give", "a", 3), ("give", "a", 1)))
        self.wrong(taken(("give", "b", 2)))
        self.wrong(taken(("give", "c", 1)))
        self.wrong(taken(("give", "a")))
        self.wrong(taken(("give", "a", 1, 1)))

    def test_give_stands_directly_in_a_take(self):
        give = (("give", "a", 1),)
        self.wrong(give)
        for statement in (("either", give, ()), ("either", (), give), ("repeat", 1, give), ("both", give, ()), ("both", (), give),
                          ("take", (("b", 1),), give)):
            self.wrong((("take", (("a", 3),), (statement,)),))
        self.right((("take", (("a", 1),), (("take", (("a", 2),), (("give", "a", 2),)), ("give", "a", 1))),))
        self.wrong((("take", (("a", 2),), (("take", (("a", 1),), (("give", "a", 2),)),)),))
        # What a caller took cannot be given in the code that is called, either.
        self.wrong(give)

    def test_either_repeat_both(self):
        self.right((("either", (RUN,), (TAKE,)),))
        self.right((("both", (), ()),))
        for number in (1, 2, 3):
            self.right((("repeat", number, (TAKE,)),))
        for number in (0, 4, True, -1, 1.0, "1", None):
            self.wrong((("repeat", number, ()),))
        for word in ("either", "both"):
            self.wrong(((word, ()),))
            self.wrong(((word, (), (), ()),))
        self.wrong((("repeat", 1),))
        self.wrong((("repeat", 1, (), ()),))

    def test_call(self):
        self.right((TAKE,), (("call", "one", "b"),))
        self.right((TAKE,), (), (("call", "two", "b"), ("call", "one", "a")))
        self.wrong((("call", "one", "a"),))
        self.raises(InvalidProgram, 0, program, (("call", "two", "a"),), (TAKE,))
        self.wrong((), (("call", "two", "a"),))
        self.wrong((), (("call", "one", "c"),))
        self.wrong((), (("call", "one"),))
        self.wrong((), (("call", "one", "a", "a"),))
        self.wrong((), (("call", "four", "a"),))

    def test_first_wrong_job(self):
        self.raises(InvalidProgram, 1, program, (), (None,), (None,))
        self.raises(InvalidProgram, 0, program, (None,), (), ())
        self.raises(InvalidProgram, 3, program, (), (), (), (None,))


class TestGreatest(Case):
    def test_codes_inside_one_another(self):
        program(inside(8))
        self.raises(InvalidProgram, 0, program, inside(9))
        program(inside(7, (TAKE,)))
        program(inside(8, (RUN,)))
        self.raises(InvalidProgram, 0, program, inside(8, (TAKE,)))
        self.raises(InvalidProgram, 0, program, inside(90))
        self.raises(InvalidProgram, 0, program, (("both", (), inside(8)),))
        self.raises(InvalidProgram, 0, program, (("either", inside(8), ()),))
        for word in ("either", "take", "repeat"):
            program(self.around(word, 1, inside(7)))
            program(self.around(word, 8, (RUN,)))
            self.raises(InvalidProgram, 0, program, self.around(word, 9, ()))
            self.raises(InvalidProgram, 0, program, self.around(word, 1, inside(8)))
        program(self.around("both", 3, inside(5)))
        self.raises(InvalidProgram, 0, program, self.around("both", 3, inside(6)))
        self.raises(InvalidProgram, 0, program, self.around("both", 1, inside(8)))
        # A call adds none, neither does what is called.
        program(inside(8), inside(8, (("call", "one", "a"),)))

    def around(self, word, times, code):
        """The code in so many statements of a word inside one another."""
        for _ in range(times):
            first = {"take": (("a", 1),), "repeat": 1}.get(word, ())
            code = ((word, first, code),)
        return code

    def test_waits(self):
        program((TAKE,) * 24)
        self.raises(InvalidProgram, 0, program, (TAKE,) * 25)
        program((("repeat", 3, (TAKE,) * 8),))
        self.raises(InvalidProgram, 0, program, (("repeat", 3, (TAKE,) * 8), TAKE))
        program((("repeat", 2, (("repeat", 3, (TAKE,) * 4),)),))
        self.raises(InvalidProgram, 0, program, (("repeat", 2, (("repeat", 3, (TAKE,) * 4), TAKE)),))
        program((("both", (), ()),) * 24)
        self.raises(InvalidProgram, 0, program, (("both", (), ()),) * 25)
        program((("either", (TAKE,) * 12, (TAKE,) * 12),))
        self.raises(InvalidProgram, 0, program, (("either", (TAKE,) * 12, (TAKE,) * 13),))

    def test_waits_inside_waits(self):
        for word, first in (("take", (("b", 1),)), ("both", ())):
            program(((word, first, (TAKE,) * 23),))
            self.raises(InvalidProgram, 0, program, ((word, first, (TAKE,) * 24),))
            self.raises(InvalidProgram, 0, program, ((word, first, (TAKE,) * 12), (word, first, (TAKE,) * 11)))
        program((("both", (TAKE,) * 4, (TAKE,) * 19),))
        self.raises(InvalidProgram, 0, program, (("both", (TAKE,) * 4, (TAKE,) * 20),))

    def test_waits_of_called_jobs(self):
        eleven = (TAKE,) * 11
        call = ("call", "one", "b")
        program(eleven, (call, call))
        self.raises(InvalidProgram, 1, program, eleven, (call, call, TAKE))
        self.raises(InvalidProgram, 1, program, eleven, (("repeat", 3, (call,)),))
        self.raises(InvalidProgram, 2, program, eleven, (call,), (("call", "two", "a"), ("call", "one", "a")))

    def test_positions(self):
        def code(ahead, *many):
            first, second, third = [(TAKE,) * number for number in many]
            return (TAKE,) * ahead + (("both", first, (("both", second, third),)),)
        self.assertEqual(len(program(code(1, 4, 4, 7)).code("one").positions()), 200)
        self.raises(InvalidProgram, 0, program, code(2, 4, 4, 7))
        self.raises(InvalidProgram, 0, program, code(0, 5, 5, 5))
        self.raises(InvalidProgram, 0, program, code(0, 7, 7, 7))

    def test_boths(self):
        program(boths(3))
        self.raises(InvalidProgram, 0, program, boths(4))
        program(boths(3) + boths(2))
        program(boths(3, (RUN,)))
        program(boths(3, (("repeat", 1, (RUN, TAKE)),)))
        self.raises(InvalidProgram, 0, program, (RUN,) + boths(4) + (RUN,))
        self.raises(InvalidProgram, 0, program, (("either", boths(4), ()),))
        self.raises(InvalidProgram, 0, program, (("take", (("a", 1),), (RUN,) + boths(4)),))
        self.raises(InvalidProgram, 0, program, boths(4, ()))
        self.raises(InvalidProgram, 0, program, (("both", (), boths(3)),))

    def test_boths_of_called_jobs(self):
        call = (("call", "one", "b"),)
        program(boths(2), boths(1, call))
        program(boths(3), call)
        self.raises(InvalidProgram, 1, program, boths(2), boths(2, call))
        self.raises(InvalidProgram, 1, program, boths(3), (("both", (), call),))
        self.raises(InvalidProgram, 2, program, boths(2), call, boths(2, (("call", "two", "a"),)))

    def test_repeats_without_waits(self):
        code = (RUN,)
        for _ in range(8):
            code = (("repeat", 3, code), ("repeat", 3, code))
        self.assertEqual(program(code).code("one").first(), [None])


class TestParts(Case):
    made = Program(("a", "b"), (("one", 1, (TAKE,)), ("two", 2, (("call", "one", "b"),))))

    def test_with_limit(self):
        other = self.made.with_limit("two", 6)
        self.assertEqual([other.limit("one"), other.limit("two"), self.made.limit("two")], [1, 6, 2])
        self.assertEqual(other.jobs[1], ("two", 6, (("call", "one", "b"),)))
        self.assertEqual(self.made.with_limit(name="one", limit=0).limit("one"), 0)
        for thing in (7, -1, True, None, "1", ODD, 1.0):
            self.raises(InvalidProgram, "jobs", self.made.with_limit, "one", thing)

    def test_with_code(self):
        other = self.made.with_code("one", (RUN,))
        self.assertEqual(other.jobs, (("one", 1, (RUN,)), ("two", 2, (("call", "one", "b"),))))
        self.assertEqual(self.made.with_code(name="two", code=()).jobs[1], ("two", 2, ()))
        for thing in (None, [], ODD, "run", 1):
            self.raises(InvalidProgram, "jobs", self.made.with_code, "one", thing)
        self.raises(InvalidProgram, 0, self.made.with_code, "one", (None,))
        self.raises(InvalidProgram, 1, self.made.with_code, "two", (("call", "two", "a"),))
        # The code of one job can make the code of a caller wrong.
        self.raises(InvalidProgram, 1, self.made.with_code, "one", (TAKE,) * 24)

    def test_no_job(self):
        for thing in ANYTHING + ("three", "a"):
            for call in (self.made.limit, self.made.code):
                self.raises(NoJob, thing, call, thing)
            for call in (self.made.with_limit, self.made.with_code):
                self.raises(NoJob, thing, call, thing, None)
                self.raises(NoJob, thing, call, thing, 1)
                self.raises(NoJob, thing, call, thing, (None,))

    def test_in(self):
        self.assertEqual(["one" in self.made, "two" in self.made, "three" in self.made, "a" in self.made], [True, True, False, False])
        for thing in ANYTHING:
            self.assertIs(thing in self.made, False)

    def test_equality(self):
        same = Program(("a", "b"), (("one", 1, (TAKE,)), ("two", 2, (("call", "one", "b"),))))
        self.assertTrue(self.made == same)
        self.assertEqual(self.made.with_limit("one", 3).with_limit("one", 1), self.made)
        self.assertFalse(self.made == self.made.with_limit("one", 2))
        self.assertFalse(self.made == self.made.with_code("one", ()))
        self.assertFalse(self.made == Program(("b", "a"), same.jobs))
        for thing in ANYTHING:
            if thing is not ODD:
                self.assertFalse(self.made == thing)

    def test_names_are_new(self):
        self.made.names().append("x")
        self.assertEqual(self.made.names(), ["one", "two"])

    def test_methods_are_its_own(self):
        for name in ("pools", "jobs", "names", "limit", "with_limit", "with_code", "code", "__contains__", "__len__", "__eq__"):
            self.assertIn(name, vars(Program))
