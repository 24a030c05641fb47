"""[8] what can be told of the code of a job."""

from leastpools.errors import InvalidPosition
from leastpools.parsing import parse
from leastpools.sizes import Sizes
from tests.helpers import ANYTHING, NESTED, ODD, Case
from tests.model import Model, flat, random_program

CALLED = (
    "pools a b; job one limit 1 { take a 2 { give a 1; } repeat 1 { take b 3 { } } }"
    " job two limit 1 { take b 1 { call one on b; } }"
)


def code_of(text, pools="a b c"):
    return parse(f"pools {pools}; job one limit 1 {{ {text} }}").code("one")


class TestExamples(Case):
    def test_document(self):
        code = parse(NESTED).code("load")
        told = [code.first(), code.positions(), code.after((1, 2, None), (0,)), str(code.held_by((1, 2, 3))), str(code.need)]
        self.assertEqual(told, [[0], [0, (1, None, 3), (1, 2, None), (1, 2, 3)], [None], "a 1", "a 1 b 3"])
        self.assertEqual(str(code.greatest_want), "a 1 b 2")
        self.assertEqual(code.after(0, ()), [(1, 2, 3)])
        self.assertEqual(code.after((1, 2, 3), (0,)), [(1, None, 3)])
        self.assertEqual(code.after((1, 2, 3), (1,)), [(1, 2, None)])
        self.assertEqual(code.after((1, None, 3), (1,)), [None])
        self.assertEqual(code.takers((1, 2, 3)), [((0,), Sizes({"b": 1})), ((1,), Sizes({"b": 2}))])
        self.assertEqual(code.takers((1, None, 3)), [((1,), Sizes({"b": 2}))])
        self.assertEqual(code.takers(0), [((), Sizes({"a": 1}))])

    def test_nothing_to_wait_for(self):
        for text in ("", "run;", "either { } or { run; }", "repeat 3 { run; }", "both { } and { run; }"):
            code = code_of(text)
            self.assertEqual((code.first(), code.positions(), str(code.need), str(code.greatest_want)), ([None], [], "-", "-"))

    def test_a_both_that_is_never_rested_at_has_a_number(self):
        code = code_of("both { } and { } take a 1 { }")
        self.assertEqual((code.first(), code.positions()), ([1], [1]))

    def test_choices(self):
        code = code_of("either { take a 1 { } } or { run; either { take b 1 { } } or { } }")
        self.assertEqual((code.first(), code.positions()), ([None, 0, 1], [0, 1]))
        self.assertEqual((code.after(0, ()), code.after(1, ())), ([None], [None]))

    def test_repeats_are_written_out(self):
        code = code_of("repeat 3 { take a 1 { } } take b 1 { }")
        self.assertEqual(code.first(), [0, 3])
        self.assertEqual([code.after(at, ()) for at in range(4)], [[1, 3], [2, 3], [3], [None]])
        code = code_of("repeat 2 { repeat 2 { take a 1 { } } take b 1 { } }")
        # Numbers: the first turn is 0 1 2, the second one 3 4 5.
        self.assertEqual(code.first(), [None, 0, 2])
        self.assertEqual(code.after(0, ()), [1, 2])
        self.assertEqual(code.after(2, ()), [None, 3, 5])
        self.assertEqual(code.after(5, ()), [None])

    def test_calls_are_takes(self):
        code = parse(CALLED).code("two")
        self.assertEqual(code.positions(), [0, 1, 2, 3])
        self.assertEqual([str(code.takers(at)[0][1]) for at in range(4)], ["b 1", "b 1", "a 2", "b 3"])
        self.assertEqual([str(code.held_by(at)) for at in range(4)], ["-", "b 1", "b 2", "b 2"])
        self.assertEqual([code.after(at, ()) for at in range(4)], [[1], [2], [None, 3], [None]])
        self.assertEqual((str(code.need), str(code.greatest_want)), ("a 2 b 5", "a 2 b 3"))

    def test_gives(self):
        code = code_of("take a 3 b 1 { give a 1; take c 1 { } give b 1; give a 2; take c 2 { give c 2; take a 1 { } } }")
        self.assertEqual([str(code.held_by(at)) for at in range(4)], ["-", "a 2 b 1", "-", "-"])
        self.assertEqual(str(code.need), "a 3 b 1 c 2")

    def test_strands_inside_strands(self):
        code = code_of(
            "take a 1 { both { take b 1 { both { take c 1 { } } and { take c 2 { } } } } and { take c 3 { } } } take b 2 { }"
        )
        self.assertEqual(code.first(), [0])
        self.assertEqual(code.after(0, ()), [(1, 2, 6)])
        self.assertEqual(code.after((1, 2, 6), (0,)), [(1, (3, 4, 5), 6)])
        position = (1, (3, 4, 5), 6)
        self.assertEqual([strand for strand, _ in code.takers(position)], [(0, 0), (0, 1), (1,)])
        self.assertEqual([str(want) for _, want in code.takers(position)], ["c 1", "c 2", "c 3"])
        self.assertEqual(str(code.held_by(position)), "a 1 b 1")
        self.assertEqual(code.after(position, (0, 0)), [(1, (3, None, 5), 6)])
        self.assertEqual(code.after((1, (3, None, 5), 6), (0, 1)), [(1, None, 6)])
        self.assertEqual(code.after((1, (3, None, 5), None), (0, 1)), [7])
        self.assertEqual(code.after((1, None, 6), (1,)), [7])
        self.assertEqual(str(code.need), "a 1 b 2 c 6")
        self.assertEqual(str(code.greatest_want), "a 1 b 2 c 3")

    def test_order(self):
        code = code_of("both { either { } or { take a 1 { } } } and { either { take b 1 { } } or { } }")
        self.assertEqual(code.first(), [None, (0, None, 2), (0, 1, None), (0, 1, 2)])
        self.assertEqual(code.positions(), [(0, None, 2), (0, 1, None), (0, 1, 2)])
        code = code_of("either { take a 1 { take b 1 { } } } or { both { take a 1 { } } and { take b 1 { } } take c 1 { } }")
        self.assertEqual(code.positions(), [0, 1, (2, None, 4), (2, 3, None), (2, 3, 4), 5])

    def test_both_with_no_choice_but_over_at_once(self):
        code = code_of("both { either { } or { take a 1 { } } } and { } take b 1 { }")
        self.assertEqual(code.first(), [(0, 1, None), 2])

    def test_need_is_of_one_position(self):
        code = code_of("take a 2 { give a 1; take b 1 { } } take a 1 { }")
        self.assertEqual(str(code.need), "a 2 b 1")
        code = code_of("take a 2 { take a 3 { } }")
        self.assertEqual((str(code.need), str(code.greatest_want)), ("a 5", "a 3"))


class TestRules(Case):
    def test_check(self):
        code = parse(NESTED).code("load")
        for position in code.positions():
            self.assertIsNone(code.check(position))
        wrong = [1, 2, 3, True, False, 0.0, -1, None, (1, None, None), (1, 2), (1, 2, 3, 4), [1, 2, 3], (1, [2], 3), (True, 2, 3),
                 (1.0, 2, 3), (1, 2, True), (2, 2, 3), (1, 3, 2), (1, (1, 2, 3), 3), (ODD, 2, 3), (1, ODD, 3), (1, 2, ODD), (0,)]
        wrong.extend(thing for thing in ANYTHING if type(thing) is not int or thing != 0)
        deep = 0
        for _ in range(90):
            deep = (0, deep, None)
        for thing in [*wrong, deep]:
            self.raises(InvalidPosition, thing, code.check, thing)

    def test_one_is_not_true(self):
        code = code_of("take a 1 { take b 1 { } }")
        self.assertIsNone(code.check(1))
        self.raises(InvalidPosition, True, code.check, True)
        self.raises(InvalidPosition, False, code.check, False)

    def test_lists_are_new(self):
        code = parse(NESTED).code("load")
        for call in (code.first, code.positions, lambda: code.after(0, ()), lambda: code.takers((1, 2, 3))):
            told = call()
            again = list(told)
            told.append(7)
            told.reverse()
            self.assertEqual(call(), again)
            call().clear()
            self.assertEqual(call(), again)

    def test_equal_calls(self):
        program = parse(CALLED)
        self.assertEqual(program.code("two").positions(), parse(CALLED).code("two").positions())
        self.assertEqual(program.code(name="one").positions(), [0, 1])


class TestModel(Case):
    """The same as a slow model of the code, on programs made by chance."""

    def unique(self, model, ways):
        return {model.position(way): way for way in ways}

    def check_job(self, program, name):
        model = Model(program, name)
        code = program.code(name)
        first = self.unique(model, model.first())
        self.assertEqual(code.first(), sorted(first, key=flat))
        seen = {position: way for position, way in first.items() if way is not None}
        waiting = list(seen)
        need = greatest = Sizes({})
        while waiting:
            position = waiting.pop()
            rows = model.strands(seen[position])
            self.assertEqual(code.takers(position), [(strand, want) for strand, want, _ in rows if want is not None])
            self.assertEqual(code.held_by(position), model.held(seen[position]))
            total = model.held(seen[position])
            for strand, want, _ in rows:
                if want is not None:
                    total, greatest = total + want, greatest | want
                    later = self.unique(model, model.after(seen[position], strand))
                    self.assertEqual(code.after(position, strand), sorted(later, key=flat))
                    for place in later:
                        if place is not None and place not in seen:
                            seen[place] = later[place]
                            waiting.append(place)
            need = need | total
        self.assertEqual(code.positions(), sorted(seen, key=flat))
        self.assertEqual((code.need, code.greatest_want), (need, greatest))

    def test_model(self):
        for seed in range(500):
            program = random_program(seed)
            for name in program.names():
                self.check_job(program, name)
