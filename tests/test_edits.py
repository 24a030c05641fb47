"""[20] edits of programs and what is gained by them."""


from leastpools.edits import edited, edited_by, edits, gains
from leastpools.errors import InvalidEdit, InvalidProgram, TooMany
from leastpools.grids import Goods
from leastpools.parsing import parse
from leastpools.printing import format_program
from leastpools.programs import Program
from tests.helpers import ANYTHING, CROSSED, ODD, Case, jobs
from tests.model import random_program

PROGRAM = parse(CROSSED)
WORDS = ("fewer", "join", "swap", "part", "early", "serial", "move")


def code_behind(text, word, *rest, pools="a b c"):
    """The text of the code of the last of some jobs behind an edit of it."""
    program = jobs(*text.split("|"), pools=pools, limit=2)
    name = program.names()[-1]
    later = edited(program, (word, name, *rest))
    assert later.pools == program.pools and later.jobs[:-1] == program.jobs[:-1] and later.jobs[-1][:2] == program.jobs[-1][:2]
    return " ".join(format_program(later).split(f"job {name} limit 2 {{")[1].split()[:-1])


def statements(code, path=()):
    """Tuples (path, statement) of all statements."""
    for index, statement in enumerate(code):
        yield (*path, index), statement
        inner = [part for part in statement if isinstance(part, tuple) and (part == () or isinstance(part[0][0], str))]
        inner = {"take": inner[1:], "either": inner, "both": inner, "repeat": inner}.get(statement[0], [])
        for side, part in enumerate(inner):
            yield from statements(part, (*path, index, side))


def slow_edits(program):
    """All edits, by trying all that have the form."""
    found = []
    for name, _, code in program.jobs:
        some = [("fewer", name)]
        for path, _ in statements(code):
            some += [(word, name, path) for word in ("join", "swap", "part")] + [("early", name, path, pool) for pool in program.pools]
            some += [("serial", name, path)] + [("move", name, path, pool) for pool in program.pools]
        for edit in some:
            try:
                edited(program, edit)
            except InvalidEdit:
                continue
            found.append(edit)
    return found


class TestKinds(Case):
    def none(self, text, word, *rest, pools="a b c", limit=1):
        program = jobs(*text.split("|"), pools=pools, limit=limit)
        edit = (word, program.names()[-1], *rest)
        self.raises(InvalidEdit, edit, edited, program, edit)
        self.assertNotIn(edit, list(edits(program)))

    def test_fewer(self):
        program = jobs("take a 1 { }", "run;", limit=3)
        later = edited(program, ("fewer", "two"))
        self.assertEqual([later.limit(name) for name in later.names()], [3, 2])
        self.assertEqual(later, program.with_limit("two", 2))
        self.assertEqual(edited(program.with_limit("one", 2), ("fewer", "one")).limit("one"), 1)
        for limit in (0, 1):
            self.none("take a 1 { }", "fewer", limit=limit)

    def test_join(self):
        self.assertEqual(code_behind("take a 1 { take b 2 { run; } }", "join", (0,)), "take a 1 b 2 { run; }")
        self.assertEqual(code_behind("take b 1 a 2 { take c 3 a 4 { } }", "join", (0,)), "take b 1 a 6 c 3 { }")
        self.assertEqual(code_behind("take b 1 { take c 3 b 8 a 1 { give b 8; } }", "join", (0,)), "take b 9 c 3 a 1 { give b 8; }")
        self.assertEqual(code_behind("run; take a 1 { take b 1 { take c 1 { } } } run;", "join", (1, 0, 0)), "run; take a 1 { take b 1 c 1 { } } run;")
        # More than 9 of a pool, a take that holds more than just one take, no take, a call.
        self.none("take a 5 { take a 5 { } }", "join", (0,))
        for text in ("take a 1 { take b 1 { } run; }", "take a 1 { run; take b 1 { } }", "take a 1 { }", "take a 1 { run; }", "run;", "take a 1 { give a 1; }",
                     "take a 1 { take b 1 { } take c 1 { } }", "take a 1 { either { take b 1 { } } or { } }", "either { take a 1 { } } or { }", "run; | take a 1 { call one on b; }"):
            self.none(text, "join", (0,))
            self.none(text, "swap", (0,))

    def test_swap(self):
        self.assertEqual(code_behind("take a 1 { take b 2 c 3 { run; } }", "swap", (0,)), "take b 2 c 3 { take a 1 { run; } }")
        self.assertEqual(code_behind("take a 2 { take a 3 { give a 2; } }", "swap", (0,)), "take a 3 { take a 2 { give a 2; } }")
        # Behind it a give would have nothing to give.
        self.none("take a 1 { take b 2 { give b 1; } }", "swap", (0,))
        self.none("take a 1 { take a 2 { give a 2; } }", "swap", (0,))
        # The same amounts change places, too.
        self.assertEqual(code_behind("take a 1 { take a 1 { } }", "swap", (0,)), "take a 1 { take a 1 { } }")
        self.assertIn(("swap", "one", (0,)), list(edits(jobs("take a 1 { take a 1 { } }"))))

    def test_part(self):
        self.assertEqual(code_behind("take a 1 { take b 1 { run; } } run;", "part", (0,)), "take a 1 { } take b 1 { run; } run;")
        self.assertEqual(code_behind("take a 2 { run; give a 1; take b 1 { give b 1; } }", "part", (0,)), "take a 2 { run; give a 1; } take b 1 { give b 1; }")
        self.assertEqual(code_behind("take a 1 { take b 1 { take c 1 { } } }", "part", (0, 0, 0)), "take a 1 { take b 1 { } take c 1 { } }")
        for text in ("take a 1 { }", "take a 1 { take b 1 { } run; }", "take a 1 { either { } or { take b 1 { } } }", "run;", "run; | take a 1 { call one on b; }"):
            self.none(text, "part", (0,))
        # In the code around it there are gives of that code still.
        self.assertEqual(code_behind("take a 1 { take b 1 { take c 1 { } } give a 1; }", "part", (0, 0, 0)), "take a 1 { take b 1 { } take c 1 { } give a 1; }")

    def test_early(self):
        self.assertEqual(code_behind("take a 2 b 1 { run; run; }", "early", (0,), "a"), "take a 2 b 1 { run; give a 2; run; }")
        self.assertEqual(code_behind("take a 2 b 1 { run; }", "early", (0,), "b"), "take a 2 b 1 { give b 1; run; }")
        self.assertEqual(code_behind("take a 3 { give a 1; take b 1 { } }", "early", (0,), "a"), "take a 3 { give a 1; give a 2; take b 1 { } }")
        self.assertEqual(code_behind("take a 3 b 2 { give b 1; give a 1; run; }", "early", (0,), "a"), "take a 3 b 2 { give b 1; give a 1; give a 2; run; }")
        self.assertEqual(code_behind("take a 3 b 2 { give b 1; give a 1; run; }", "early", (0,), "b"), "take a 3 b 2 { give b 1; give a 1; give b 1; run; }")
        # What the last statement gives is not left at the end.
        self.assertEqual(code_behind("take a 3 { run; give a 1; }", "early", (0,), "a"), "take a 3 { run; give a 2; give a 1; }")
        self.assertEqual(code_behind("take a 1 { take a 9 { run; } }", "early", (0, 0, 0), "a"), "take a 1 { take a 9 { give a 9; run; } }")
        for text, pool in (("take a 1 { }", "a"), ("take a 1 { run; }", "b"), ("take a 2 { give a 2; run; }", "a"), ("take a 2 { give a 1; run; give a 1; }", "a"),
                           ("run;", "a"), ("run; | call one on a;", "a"), ("repeat 2 { run; }", "a"), ("take a 1 { run; }", "z"), ("take a 1 { run; }", None)):
            self.none(text, "early", (0,), pool)

    def test_serial(self):
        self.assertEqual(code_behind("run; both { take a 1 { } run; } and { take b 1 { } } run;", "serial", (1,)), "run; take a 1 { } run; take b 1 { } run;")
        self.assertEqual(code_behind("both { } and { }", "serial", (0,)), "")
        self.assertEqual(code_behind("both { } and { run; }", "serial", (0,)), "run;")
        self.assertEqual(code_behind("take a 1 { both { both { run; } and { } } and { } }", "serial", (0, 0, 0, 0, 0)), "take a 1 { both { run; } and { } }")
        for text in ("either { } or { }", "take a 1 { both { } and { } }", "run;"):
            self.none(text, "serial", (0,))

    def test_move(self):
        self.assertEqual(code_behind("run; | call one on a;", "move", (0,), "c"), "call one on c;")
        self.assertEqual(code_behind("run; | take a 1 { run; call one on a; }", "move", (0, 0, 1), "b"), "take a 1 { run; call one on b; }")
        self.none("run; | call one on a;", "move", (0,), "a")
        self.none("run; | call one on a;", "move", (0,), "z")
        self.none("run; | take a 1 { }", "move", (0,), "b")

    def test_a_job_that_is_called(self):
        program = jobs("take a 1 { take b 1 { } }", "call one on b;")
        later = edited(program, ("part", "one", (0,)))
        self.assertEqual(later.code("two").positions(), [0, 1, 2])
        self.assertEqual([str(later.code("two").held_by(at)) for at in (1, 2)], ["b 1", "b 1"])
        self.assertEqual([str(program.code("two").held_by(at)) for at in (1, 2)], ["b 1", "a 1 b 1"])
        # No path leads into the code of a called job.
        self.raises(InvalidEdit, ("part", "two", (0, 0, 0)), edited, program, ("part", "two", (0, 0, 0)))

    def test_codes_as_deep_as_can_be(self):
        program = jobs("take a 1 { " * 8 + "} " * 8)
        self.assertEqual([edit[0] for edit in edits(program)], ["join", "swap", "part", "early"] * 7)
        self.assertEqual(edited(program, ("part", "one", (0,) + (0, 0) * 6)).code("one").positions(), list(range(8)))

    def test_paths(self):
        program = jobs("take a 1 { take b 1 { } } either { run; } or { take a 1 { take b 1 { } } } repeat 2 { take a 1 { take b 1 { } } }")
        for path in ((0,), (1, 1, 0), (2, 0, 0)):
            self.assertIn(("join", "one", path), list(edits(program)))
        for path in ((3,), (-1,), (-3,), (), (0, 0), (0, 1, 0), (0, 0, 1), (0, 0, -1), (0, -1, 0), (1, 2, 0), (1, 0, 0, 0, 0), (1, 1), (1, 1, 0, 0), (1, True, 0), (False,), (2, 0, False),
                     (1, 1, True), [0], 0, "0", (0.0,), ("0",), (None,), (ODD,), ODD, None, (0, ODD, 0), (0,) * 1001, ((0,),)):
            edit = ("join", "one", path)
            self.raises(InvalidEdit, edit, edited, program, edit)


class TestEdits(Case):
    def test_order(self):
        text = "pools b a; job one limit 2 { take a 1 { take b 1 { } } both { } and { take b 2 { run; } } } job two limit 3 { call one on a; take a 1 b 1 { run; } }"
        self.assertEqual(list(edits(parse(text))), [
            ("fewer", "one"), ("join", "one", (0,)), ("swap", "one", (0,)), ("part", "one", (0,)), ("early", "one", (0,), "a"), ("serial", "one", (1,)),
            ("early", "one", (1, 1, 0), "b"), ("fewer", "two"), ("move", "two", (0,), "b"), ("early", "two", (1,), "b"), ("early", "two", (1,), "a"),
        ])

    def test_none(self):
        self.assertEqual(list(edits(jobs("", "run; take a 1 { }"))), [])

    def test_crossed(self):
        self.assertEqual([edit[:2] for edit in edits(PROGRAM)], [(word, name) for name in ("load", "save") for word in ("join", "swap", "part", "early")])

    def test_by_chance(self):
        words = set()
        for seed in range(100):
            program = random_program(seed)
            told = list(edits(program))
            self.assertEqual(told, slow_edits(program))
            for edit in told:
                words.add(edit[0])
                later = edited(program, edit)
                self.assertIsInstance(later, Program)
                self.assertEqual(later, Program(later.pools, later.jobs))
                self.assertEqual([job for job in later.jobs if job[0] != edit[1]], [job for job in program.jobs if job[0] != edit[1]])
                self.assertEqual(edited_by(program, [edit]), later)
        self.assertEqual(words, set(WORDS))

    def test_raises(self):
        others = [(), ("fewer",), ("fewer", "load", (0,)), ("fewer", "none"), ("join", "load"), ("join", "load", (0,), "a"), ("early", "load", (0,)), ["join", "load", (0,)],
                  ("early", "load", (0,), "a", 1), ("Join", "load", (0,)), (b"join", "load", (0,)), ("join", ODD, (0,)), ("join", "load", ODD), (ODD, "load", (0,)), ("take", "load", (0,)),
                  ("move", "load", (0,), "b"), ("early", "load", (0,), ODD), ("early", "load", (0,), ("a",))]
        for thing in [*ANYTHING, *others]:
            self.raises(InvalidEdit, thing, edited, PROGRAM, thing)
            self.raises(InvalidEdit, thing, edited_by, PROGRAM, [thing])
            self.raises(InvalidEdit, thing, edited_by, PROGRAM, [("join", "load", (0,)), thing])
            self.raises(InvalidEdit, thing, gains, PROGRAM, thing)
        for thing in ANYTHING:
            self.raises_when_iterated(InvalidProgram, thing, edits, thing)
            self.raises(InvalidProgram, thing, edited, thing, None)
            self.raises(InvalidProgram, thing, edited_by, thing, None)
            self.raises(InvalidProgram, thing, gains, thing, None)

    def test_lists_of_edits(self):
        some = [("part", "load", (0,)), ("join", "save", (0,))]
        self.assertEqual(edited_by(PROGRAM, some), edited(edited(PROGRAM, some[0]), some[1]))
        self.assertEqual(edited_by(PROGRAM, []), PROGRAM)
        # Of the program behind those before it: what was done once cannot be done again.
        self.raises(InvalidEdit, some[0], edited_by, PROGRAM, [some[0], some[0]])
        self.raises(InvalidEdit, some[0], edited_by, PROGRAM, [*some, some[0], None])
        # What was none before may be one behind.
        program = jobs("take a 1 { take b 1 { take c 1 { } run; } }", pools="a b c")
        self.assertEqual(edited_by(program, [("part", "one", (0,)), ("early", "one", (1,), "b")]).jobs[0][2][1][2][1], ("give", "b", 1))
        for thing in (tuple(some), None, ODD, (), {}, some[0], "", {0: some[0]}):
            self.raises(InvalidEdit, thing, edited_by, PROGRAM, thing)

    def test_names_of_arguments(self):
        edit = ("join", "load", (0,))
        self.assertEqual(len(list(edits(program=PROGRAM))), 8)
        self.assertEqual(edited(program=PROGRAM, edit=edit), edited_by(program=PROGRAM, some=[edit]))
        self.assertEqual(len(gains(program=PROGRAM, edit=edit)), 2)


class TestGains(Case):
    def texts(self, program, edit):
        told = gains(program, edit)
        self.assertIsInstance(told, tuple)
        return [[str(sizes) for sizes in some] for some in told]

    def test_examples(self):
        for edit in edits(PROGRAM):
            self.assertEqual(self.texts(PROGRAM, edit), [["a 1 b 1"], []])
        # The other way round: what is asked for in order is asked for crosswise behind the edit.
        program = edited(PROGRAM, ("swap", "load", (0,)))
        self.assertEqual(self.texts(program, ("swap", "load", (0,))), [[], ["a 1 b 1"]])

    def test_as_beyond_tells(self):
        both = 0
        for seed in range(120):
            program = random_program(seed, most_jobs=2)
            try:
                before = Goods(program)
                if len(list(before.grid())) > 40:
                    continue
                for edit in edits(program):
                    after = Goods(edited(program, edit))
                    told = gains(program, edit)
                    self.assertEqual(told, (list(after.beyond(before)), list(before.beyond(after))))
                    both += len(told[0]) > 0 and len(told[1]) > 0
                    if edit[0] in ("join", "serial", "fewer"):
                        self.assertEqual(told[1], [])
            except TooMany:
                continue
        self.assertGreater(both, 0)

    def test_raises(self):
        # With fewer jobs the grid is small enough, before it is not.
        large = parse("pools a b; job one limit 2 { take a 9 { take a 6 { } } take b 9 { take b 4 { } } }")
        self.raises(TooMany, 400, Goods, large)
        self.assertEqual(len(list(Goods(edited(large, ("fewer", "one"))).grid())), 16 * 14)
        self.raises(TooMany, 400, gains, large, ("fewer", "one"))
        self.raises(InvalidEdit, None, gains, large, None)
        # Before the edit there are too many states, behind it there are too many sizes, which is told first.
        text = "pools a b; job one limit 0 {{ }} job two limit {} {{ take a {} {{ }} {} }} job three limit 6 {{ call one on a; }} job four limit {} {{ take b {} {{ }} take b 1 {{ }} }}"
        more = parse(text.format(6, 3, "take a 1 { } take a 1 { }", 3, 5))
        edit = ("move", "three", (0,), "b")
        self.raises(TooMany, 2000, Goods, more)
        self.raises(TooMany, 400, Goods, edited(more, edit))
        self.raises(TooMany, 400, gains, more, edit)
        # 25 * 15 sizes before, 19 * 21 behind it, 25 * 21 for both.
        both = parse(text.format(2, 9, "", 2, 7))
        self.assertEqual([len(list(Goods(one).grid())) for one in (both, edited(both, edit))], [375, 399])
        self.raises(TooMany, 400, gains, both, edit)
