"""[7] parse and format_program."""

import random
import re

from leastpools.errors import InvalidProgram, InvalidText
from leastpools.parsing import parse
from leastpools.printing import format_program
from leastpools.programs import Program
from tests.helpers import ANYTHING, CROSSED, NESTED, Case
from tests.model import random_program

ALL = (
    "pools a bb; job one limit 6 { run; take a 1 bb 9 { give bb 9; run; } either { } or { run; } repeat 3 { both { } and { } } }"
    " job two limit 0 { call one on bb; }"
)
LINES = [
    "pools a bb;", "job one limit 6 {", "  run;", "  take a 1 bb 9 {", "    give bb 9;", "    run;", "  }", "  either {",
    "  } or {", "    run;", "  }", "  repeat 3 {", "    both {", "    } and {", "    }", "  }", "}", "job two limit 0 {",
    "  call one on bb;", "}", "",
]
PROGRAM = Program(("a", "bb"), (
    ("one", 6, (
        ("run",), ("take", (("a", 1), ("bb", 9)), (("give", "bb", 9), ("run",))), ("either", (), (("run",),)),
        ("repeat", 3, (("both", (), ()),)),
    )),
    ("two", 0, (("call", "one", "bb"),)),
))
# A text that begins well, for what may stand in a block.
START = "pools a b; job one limit 1 { take a 3 { "


class TestRight(Case):
    def test_document(self):
        program = parse("pools a b; job load limit 1 { either { take a 1 { } } or { run; } }")
        lines = ["pools a b;", "job load limit 1 {", "  either {", "    take a 1 {", "    }", "  } or {", "    run;", "  }", "}", ""]
        self.assertEqual(format_program(program).split("\n"), lines)

    def test_all_statements(self):
        self.assertEqual(parse(ALL), PROGRAM)
        self.assertEqual(format_program(PROGRAM), "\n".join(LINES))
        self.assertEqual(parse(format_program(PROGRAM)), PROGRAM)

    def test_one_token_on_each_line(self):
        text = ALL.replace(";", " ; ").replace("  ", " ")
        self.assertEqual(parse("\n".join(text.split(" "))), PROGRAM)
        self.assertEqual(parse("\n\n " + "  \n".join(text.split(" ")) + " \n\n"), PROGRAM)

    def test_no_blank_where_none_is_needed(self):
        text = ALL
        for sign in "{};":
            text = text.replace(" " + sign, sign).replace(sign + " ", sign)
        self.assertEqual(parse(text), PROGRAM)
        tight = "pools a bb;job one limit6{run;take a1bb9{give bb9;run;}either{}or{run;}repeat3{both{}and{}}}job two limit0{call one on bb;}"
        self.assertEqual(parse(tight), PROGRAM)

    def test_programs_made_by_chance(self):
        for seed in range(300):
            program = random_program(seed)
            text = format_program(program)
            if len(text) <= 4000:
                self.assertEqual(parse(text), program)
                self.assertEqual(format_program(parse(text)), text)

    def test_format_of_anything(self):
        for thing in ANYTHING:
            self.raises(InvalidProgram, thing, format_program, thing)

    def test_pools_and_jobs(self):
        self.assertEqual(parse("pools a b c d; job a limit 0 { }").jobs, (("a", 0, ()),))

    def test_nine_blocks(self):
        text = "pools a; job one limit 1 {" + "repeat 1 {" * 8 + "}" * 9
        self.assertEqual(format_program(parse(text)).count("{"), 9)
        self.assertEqual(parse(format_program(parse(text))), parse(text))

    def test_4000_characters(self):
        self.assertEqual(parse(CROSSED + " " * (4000 - len(CROSSED))), parse(CROSSED))
        self.assertEqual(parse(" " * (4000 - len(NESTED)) + NESTED), parse(NESTED))


class TestWrong(Case):
    def at(self, text, at):
        self.raises(InvalidText, at, parse, text)

    def before(self, text, rest):
        """The wrong token stands behind text; rest begins with it."""
        self.at(text + rest, len(text))

    def test_no_text(self):
        for thing in ANYTHING:
            if not isinstance(thing, str):
                self.raises(InvalidText, None, parse, thing)

    def test_too_long(self):
        self.at(CROSSED + " " * (4001 - len(CROSSED)), 4000)
        self.at("%" * 4001, 4000)
        self.at("%" * 4000, 0)

    def test_no_token_begins(self):
        for sign in "%\t\rAZ_-.,:()\"'\x00\u00e9\u00a0\u0660\u00b2\u2028\U0001d7d8\ud800":
            self.before("pools a b;", sign)
            self.before("pools a b; job one limit 1 { run; } ", sign + " job")
            # The whole text is cut first, so the later sign counts.
            self.before("run run run 0 0 ", sign)
            self.before("", sign)

    def test_words_and_numbers(self):
        self.before("pools a ", "abcdefghi; job one limit 1 { }")
        self.before("pools a; job one limit ", "10 { }")
        self.before("pools a; job one limit ", "00 { }")
        self.before("pools a; job one limit 1 { take a ", "12 { } }")
        self.before("run run ", "abcdefghi 12")
        self.before("run run ", "12 abcdefghi")
        self.before("pools a; job one limit 1 { repeat", "123{ } }")
        self.assertEqual(parse("pools abcdefgh; job one limit 1 { }").pools, ("abcdefgh",))

    def test_first_of_several(self):
        self.before("pools a ", "abcdefghi %")
        self.before("pools a ", "% abcdefghi")
        self.before("pools a ", "12 %")

    def test_pools(self):
        self.before("", "pool a;")
        self.before("", "a;")
        self.before("", ";")
        self.before(" \n ", "job one")
        self.before("pools ", "; job one limit 1 { }")
        self.before("pools ", "1;")
        self.before("pools ", "pools;")
        self.before("pools a ", "job one limit 1 { }")
        self.before("pools a ", "take b;")
        self.before("pools a ", "{ }")
        self.before("pools a b", "1;")
        self.before("pools a; ", "; job one limit 1 { }")
        self.before("pools a; ", "pools b;")
        self.before("pools a; ", "one limit 1 { }")

    def test_jobs(self):
        self.before("pools a; job ", "limit 1 { }")
        self.before("pools a; job ", "1 limit 1 { }")
        self.before("pools a; job ", "{ }")
        self.before("pools a; job one ", "limits 1 { }")
        self.before("pools a; job one ", "1 { }")
        self.before("pools a; job one limit ", "{ }")
        self.before("pools a; job one limit ", "a { }")
        self.before("pools a; job one limit 1 ", "2 { }")
        self.before("pools a; job one limit 1 ", "; { }")
        self.before("pools a; job one limit 1 { } ", "{ }")
        self.before("pools a; job one limit 1 { } ", "}")
        self.before("pools a; job one limit 1 { } ", ";")
        self.before("pools a; job one limit 1 { } ", "run;")

    def test_statements(self):
        for wrong in ("a 1 { }", "1", "{ }", ";", "or { }", "and { }", "on a;", "job one", "limit 1", "pools a;", "runs;"):
            self.before(START, wrong)
        for begun, wrong in (
            ("run ", "run;"), ("run ", "}"), ("take ", "{ }"), ("take ", "1 { }"), ("take ", "run 1 { }"), ("take a ", "{ }"),
            ("take a ", "b 1 { }"), ("take a 1 ", "1 { }"), ("take a 1 ", "; }"), ("take a 1 ", "run;"), ("take a 1 b ", "{ }"),
            ("give ", "1;"), ("give ", "take 1;"), ("give a ", ";"), ("give a 1 ", "b 1;"), ("give a 1 ", "}"),
            ("either ", "1"), ("either ", "a"), ("either { } ", "and { }"), ("either { } ", "{ }"), ("either { } ", "}"),
            ("either { } or ", "run;"), ("repeat ", "{ }"), ("repeat ", "a { }"), ("repeat 2 ", ";"), ("both ", ";"),
            ("both { } ", "or { }"), ("both { } ", "}"), ("both { } and ", "}"), ("call ", "on a;"), ("call ", "1 on a;"),
            ("call one ", "a;"), ("call one ", ";"), ("call one on ", ";"), ("call one on ", "on;"), ("call one on a ", "1;"),
            ("call one on a ", "}"),
        ):
            self.before(START + begun, wrong)

    def test_too_early(self):
        tokens = re.findall("[a-z]+|[0-9]|[{};]", ALL)
        for many, token in enumerate(tokens):
            for blank in (" ", "\n", " \n "):
                part = blank.join(tokens[:many])
                if token != "job":
                    self.at(part, len(part))
                    self.at(part + blank, len(part + blank))
        first = ALL[:ALL.index("job two")]
        self.assertEqual(parse(first).jobs, PROGRAM.jobs[:1])
        for text in ("", " ", "\n\n  ", "pools", "pools a", "pools a ", "pools a; job", "pools a; job one limit 1 { run; \n"):
            self.at(text, len(text))

    def test_tenth_block(self):
        for word in ("repeat 1 ", "take a 1 ", "either ", "both "):
            for ninth in ("either { } or ", "both { } and "):
                text = "pools a; job one limit 1 {" + "repeat 1 {" * 8
                self.before(text + word, "{ } }")
                text = "pools a; job one limit 1 {" + "repeat 1 {" * 7
                self.before(text + ninth + "{ " + word, "{ } }")
        self.before("pools a; job one limit 1 {" + "repeat 1{" * 8 + "repeat 1", "{")

    def test_programs_that_are_none(self):
        for text, value in (
            ("pools a b c d e; job one limit 1 { }", "pools"), ("pools a a; job one limit 7 { }", "pools"),
            ("pools a;", "jobs"), ("pools a; job one limit 7 { }", "jobs"), ("pools a;" + "job one limit 1 { }" * 2, "jobs"),
            ("pools a; job one limit 1 { } job two limit 1 { take b 1 { } }", 1),
            ("pools a; job one limit 1 { take a 0 { } }", 0), ("pools a; job one limit 1 { take a 1 a 1 { } }", 0),
            ("pools a; job one limit 1 { give a 1; }", 0), ("pools a; job one limit 1 { take a 1 { give a 2; } }", 0),
            ("pools a; job one limit 1 { take a 1 { give a 0; } }", 0), ("pools a; job one limit 1 { repeat 0 { } }", 0),
            ("pools a; job one limit 1 { repeat 4 { } }", 0), ("pools a; job one limit 1 { call one on a; }", 0),
            ("pools a; job one limit 1 { } job two limit 1 { call one on b; }", 1),
            ("pools a; job one limit 1 { " + "take a 1 { } " * 25 + "}", 0),
        ):
            self.raises(InvalidProgram, value, parse, text)
        names = "abcde"
        self.raises(InvalidProgram, "jobs", parse, "pools a;" + "".join(f"job {name} limit 1 {{ }}" for name in names))

    def test_a_sign_put_in_by_chance(self):
        rng = random.Random(7)
        text = format_program(PROGRAM)
        for _ in range(200):
            at = rng.randint(0, len(text))
            self.at(text[:at] + "%" + text[at:], at)
