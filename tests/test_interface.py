"""The interface: names, arguments, and where each thing is defined; [3] over the whole program."""

import ast
import copy
import importlib
import inspect
import os
import unittest

from leastpools.audits import answer_to, due_answers, first_wrong, lost_lines, strays
from leastpools.boxes import atlas, boxes, lets_atlas, lets_box, lies_in
from leastpools.careful import falls, is_safe, lets_safe, lets_unsafe, lone_need, safe_order, unsafe_set
from leastpools.console import Console
from leastpools.costs import cheapest, cheapest_paper, cost, lets_cheapest
from leastpools.counting import own_limits, points
from leastpools.countings import count, is_counted_good, lets_count, sure
from leastpools.advice import advice, advice_paper, lets_advice
from leastpools.edits import edited, edited_by, edits, gains
from leastpools.failing import behind_rough, lets_ring, ring_of_repeats, rough_moves
from leastpools.faults import FAULTS, lets_seen, seen
from leastpools.gates import gate_run, gates, lets_gates, peak
from leastpools.granting import careful_moves, held_back, price, reached_with_care
from leastpools.grids import Goods, caps
from leastpools.kernels import kernel, spread
from leastpools.limits import endless_from, greatest_limits, lets_limits, limits_paper, with_limits
from leastpools.lines import Line, lets_line_run, moves_in_line, stuck_in_line, verdict_in_line
from leastpools.papers import floor_of, good_by_report, lets_paper, lets_report, paper_of_limits, report
from leastpools.parsing import parse
from leastpools.printing import format_program
from leastpools.programs import Program
from leastpools.ranks import edges, greatest_want, lets_ranks, ranks, ring
from leastpools.runs import Run
from leastpools.runtimes import Runtime, recovered
from leastpools.sizes import Sizes, is_word
from leastpools.states import State, empty_state
from leastpools.stuck import freeing_order, is_stuck, lacking, lets_order, lets_stuck, stuck_set
from leastpools.verdicts import is_good, lets_verdict, reached, verdict
from leastpools.watching import Watch, fewest_stops, first_doomed, first_stuck, lets_stops, merged, word_of
from tests.helpers import CROSSED

PACKAGE = os.path.join(os.path.dirname(os.path.dirname(os.path.abspath(__file__))), "leastpools")

# Each function with its arguments; `=` tells a default, `*` that it is passed by name only.
FUNCTIONS = {
    "sizes": ["is_word thing"],
    "parsing": ["parse text"],
    "printing": ["format_program program"],
    "states": ["empty_state program sizes"],
    "stuck": ["stuck_set state", "freeing_order state", "is_stuck state", "lacking state", "lets_stuck state thing", "lets_order state thing"],
    "verdicts": ["reached program sizes", "verdict program sizes", "is_good program sizes", "lets_verdict program sizes thing"],
    "grids": ["caps program"],
    "kernels": ["spread program moves", "kernel run"],
    "ranks": ["edges program", "greatest_want program", "ranks program", "ring program", "lets_ranks program thing"],
    "counting": ["points program", "own_limits program"],
    "countings": ["count program limits pool size", "lets_count program limits pool size thing", "sure program limits pool", "is_counted_good program limits sizes"],
    "careful": ["falls program name position", "safe_order state", "unsafe_set state", "is_safe state", "lets_safe state thing", "lets_unsafe state thing", "lone_need program"],
    "granting": ["careful_moves state", "held_back state", "reached_with_care program sizes", "price program sizes"],
    "limits": ["endless_from program sizes", "with_limits program limits", "greatest_limits program sizes", "limits_paper program sizes", "lets_limits program sizes thing"],
    "edits": ["edits program", "edited program edit", "edited_by program some", "gains program edit"],
    "advice": ["advice program sizes most=1", "advice_paper program sizes most=1", "lets_advice program sizes most thing"],
    "gates": ["peak program moves", "gates program", "gate_run program jobs sizes", "lets_gates program thing"],
    "boxes": ["lets_box program thing", "lies_in program boxes_told sizes", "boxes program", "atlas program", "lets_atlas program thing"],
    "costs": ["cost program costs sizes", "cheapest program costs given", "cheapest_paper program costs given", "lets_cheapest program costs given thing"],
    "lines": ["moves_in_line line", "stuck_in_line line", "verdict_in_line program sizes", "lets_line_run program sizes thing"],
    "watching": ["word_of state", "first_doomed program sizes moves", "first_stuck program sizes moves", "fewest_stops state", "lets_stops state thing", "merged program sizes histories"],
    "failing": ["rough_moves state", "behind_rough state move", "ring_of_repeats program sizes", "lets_ring program sizes thing"],
    "runtimes": ["recovered program sizes text *careful=False"],
    "papers": ["lets_paper program thing", "report program", "lets_report program thing", "good_by_report program rows sizes", "paper_of_limits program amounts", "floor_of program"],
    "audits": ["answer_to runtime request", "due_answers program sizes requests *careful=False", "first_wrong program sizes transcript *careful=False",
               "lost_lines program sizes texts *careful=False", "strays program sizes one other *careful=False"],
    "faults": ["seen program sizes word", "lets_seen program sizes word thing"],
}
CLASSES = {
    ("sizes", "Sizes amounts"): ["names", "by_name", "fits other", "total", "__getitem__", "__contains__", "__iter__", "__len__", "__add__", "__sub__", "__and__", "__or__", "__mul__", "__call__ name by=1", "__eq__", "__str__"],
    ("programs", "Program pools jobs"): ["pools", "jobs", "names", "limit name", "with_limit name limit", "with_code name code", "code name", "__contains__", "__len__", "__eq__"],
    ("states", "State program sizes jobs"): ["program", "sizes", "held", "free", "jobs_by_position", "count name", "job_count", "moves", "__contains__", "__rshift__", "without name position", "at_sizes sizes", "__eq__"],
    ("runs", "Run program sizes moves=()"): ["__call__ move", "state", "done", "states", "__iter__", "__getitem__", "undo many=1", "__len__", "twin", "trial", "look_ahead moves", "at_sizes sizes"],
    ("grids", "Goods program"): ["program", "caps", "__contains__", "__len__", "__iter__", "tight", "grid", "least", "anomalies", "beyond other", "__eq__"],
    ("lines", "Line program sizes jobs=() asked=()"): ["job_rows", "asked", "left_over", "__eq__", "__contains__", "__rshift__"],
    ("watching", "Watch program sizes"): ["__call__ move", "state_now", "words"],
    ("runtimes", "Runtime program sizes *careful=False"): ["enter name position", "take number strand later", "fail number", "state_here", "numbers", "journal"],
    ("console", "Console"): ["run line"],
}

PROGRAM = parse(CROSSED)
ONE = Sizes({"a": 1, "b": 1})
TWO = Sizes({"a": 2, "b": 1})
MOVES = [("enter", "load", 0), ("enter", "save", 0), ("take", "load", 0, (), 1), ("take", "save", 0, (), 1)]


def shape_of(function, skip=0):
    """The arguments of a function, told as above."""
    told = []
    for parameter in list(inspect.signature(function).parameters.values())[skip:]:
        text = parameter.name
        if parameter.default is not inspect.Parameter.empty:
            text += f"={parameter.default!r}".replace("'", "")
        if parameter.kind is inspect.Parameter.KEYWORD_ONLY:
            text = "*" + text
        told.append(text)
    return told


class TestInterface(unittest.TestCase):
    def defined(self, name):
        """The functions and classes that are defined in a file, and what stands in the classes."""
        with open(os.path.join(PACKAGE, name + ".py"), encoding="utf-8") as handle:
            tree = ast.parse(handle.read())
        found = {}
        for node in tree.body:
            if isinstance(node, (ast.FunctionDef, ast.ClassDef)):
                found[node.name] = [part.name for part in node.body if isinstance(part, ast.FunctionDef)]
        return found

    def test_functions(self):
        for name, rows in FUNCTIONS.items():
            module = importlib.import_module("leastpools." + name)
            for row in rows:
                function, *parts = row.split()
                self.assertIn(function, self.defined(name))
                self.assertEqual(shape_of(getattr(module, function)), parts, row)

    def test_classes(self):
        for (name, row), members in CLASSES.items():
            made, *parts = row.split()
            there = self.defined(name)[made]
            kind = getattr(importlib.import_module("leastpools." + name), made)
            self.assertEqual(shape_of(kind), parts, row)
            for member in members:
                member, *rest = member.split()
                # Inheriting it is not enough.
                self.assertIn(member, there)
                if rest:
                    self.assertEqual(shape_of(getattr(kind, member), 1), rest, (row, member))

    def test_code(self):
        code = PROGRAM.code("load")
        for name in ("first", "positions", "after", "held_by", "takers", "check"):
            self.assertTrue(callable(getattr(code, name)))
        self.assertEqual(shape_of(code.after), ["position", "strand"])
        self.assertEqual((str(code.need), str(code.greatest_want)), ("a 1 b 1", "a 1 b 1"))

    def test_faults(self):
        self.assertIsInstance(FAULTS, tuple)
        self.assertEqual(len(FAULTS), 7)


def spoil(thing):
    """Change all lists and dicts that something told has."""
    if isinstance(thing, dict):
        for part in [*thing, *thing.values()]:
            spoil(part)
        thing["spoiled"] = 1
    elif isinstance(thing, (list, tuple)):
        for part in thing:
            spoil(part)
        if isinstance(thing, list):
            thing.append("spoiled")


def text_of(thing):
    """What is told of something, down to its Sizes and states."""
    if isinstance(thing, dict):
        return {str(key): text_of(part) for key, part in thing.items()}
    if isinstance(thing, (list, tuple)):
        return [type(thing).__name__, *[text_of(part) for part in thing]]
    if isinstance(thing, State):
        return [format_program(thing.program), str(thing.sizes), text_of(thing.jobs_by_position())]
    if isinstance(thing, Program):
        return format_program(thing)
    if isinstance(thing, Run):
        return [text_of(thing.done()), text_of(thing.state)]
    if isinstance(thing, Line):
        return [thing.job_rows(), thing.asked()]
    if isinstance(thing, Runtime):
        return [thing.journal(), text_of(thing.state_here)]
    return f"{type(thing).__name__} {thing}"


def calls():
    """Tuples (function, arguments by name), one for each function of the interface and more, all new."""
    program, limits = parse(CROSSED), {"load": 1, "save": None}
    plain = parse("pools a b; job load limit 2 { take a 1 { take a 1 { } } } job save limit 1 { take a 2 { } }")
    state = Run(program, ONE, MOVES).state
    here = Run(program, ONE, MOVES[:3]).state
    line = Line(program, ONE, (("save", 0), ("load", 1)), ((0, ()), (1, ())))
    runtime = Runtime(program, ONE)
    runtime.enter("load", 0)
    text = runtime.journal()
    edit = ("join", "load", (0,))
    told = {"program": program, "sizes": ONE}
    requests = [("enter", "load", 0), ("take", 1, (), 1), ("fail", 2)]
    histories = [("load", 0, [((), 1), ((), None)]), ("save", 0, [])]
    rows = [
        (is_word, {"thing": ["a"]}), (parse, {"text": CROSSED}), (format_program, {"program": program}), (empty_state, told), (State, {**told, "jobs": {("load", 1): 1}}), (Run, {**told, "moves": list(MOVES)}),
        (reached, told), (verdict, told), (verdict, {**told, "sizes": TWO}), (is_good, told), (lets_verdict, {**told, "thing": verdict(program, ONE)}), (caps, {"program": program}),
        (spread, {"program": program, "moves": list(MOVES)}), (kernel, {"run": Run(program, ONE, MOVES)}), (lets_ranks, {"program": program, "thing": {"a": 1, "b": 2}}), (points, {"program": plain}), (own_limits, {"program": plain}),
        (count, {"program": plain, "limits": limits, "pool": "a", "size": 2}), (count, {"program": plain, "limits": limits, "pool": "a", "size": 5}), (sure, {"program": plain, "limits": limits, "pool": "a"}),
        (lets_count, {"program": plain, "limits": limits, "pool": "a", "size": 5, "thing": count(plain, limits, "a", 5)}), (is_counted_good, {"program": plain, "limits": limits, "sizes": ONE}),
        (falls, {"program": program, "name": "load", "position": 1}), (lone_need, {"program": program}), (reached_with_care, told), (price, told), (endless_from, told), (with_limits, {"program": program, "limits": (1, 2)}),
        (greatest_limits, told), (limits_paper, told), (lets_limits, {**told, "thing": limits_paper(program, ONE)}), (edits, {"program": program}), (edited, {"program": program, "edit": edit}),
        (edited_by, {"program": program, "some": [edit]}), (gains, {"program": program, "edit": edit}), (advice, told), (advice, {**told, "most": 2}), (advice_paper, told), (advice_paper, {**told, "most": 0}),
        (lets_advice, {**told, "most": 1, "thing": advice_paper(program, ONE)}), (peak, {"program": program, "moves": list(MOVES)}), (gates, {"program": program}), (gate_run, {**told, "jobs": {("load", 1): 1}}),
        (lets_gates, {"program": program, "thing": gates(program)}), (boxes, {"program": program}), (lets_box, {"program": program, "thing": boxes(program)[0]}), (lies_in, {**told, "boxes_told": boxes(program)}),
        (atlas, {"program": program}), (lets_atlas, {"program": program, "thing": atlas(program)}), (cost, {**told, "costs": TWO}), (cheapest, {"program": program, "costs": ONE, "given": ONE}),
        (cheapest_paper, {"program": program, "costs": ONE, "given": ONE}), (lets_cheapest, {"program": program, "costs": ONE, "given": ONE, "thing": cheapest_paper(program, ONE, ONE)}),
        (Line, {**told, "jobs": (("load", 0),), "asked": ((0, ()),)}), (Line, told), (moves_in_line, {"line": line}), (stuck_in_line, {"line": line}), (verdict_in_line, told),
        (lets_line_run, {**told, "thing": [("enter", "load", 0)]}), (first_doomed, {**told, "moves": list(MOVES)}), (first_stuck, {**told, "moves": list(MOVES)}), (lets_stops, {"state": state, "thing": [("load", 1)]}),
        (merged, {**told, "histories": histories}), (behind_rough, {"state": state, "move": ("again", "load", 1, 0)}), (ring_of_repeats, told), (lets_ring, {**told, "thing": ring_of_repeats(program, ONE)}),
        (Runtime, told), (Runtime, {**told, "careful": True}), (recovered, {**told, "text": text}), (recovered, {**told, "text": text, "careful": True}), (lets_paper, {"program": program, "thing": report(program)[0]}),
        (report, {"program": program}), (lets_report, {"program": program, "thing": report(program)}), (good_by_report, {**told, "rows": report(program)}), (paper_of_limits, {"program": program, "amounts": {"a": 1}}),
        (floor_of, {"program": program}), (answer_to, {"runtime": runtime, "request": ("enter", "load", 0)}), (due_answers, {**told, "requests": requests}), (due_answers, {**told, "requests": requests, "careful": True}),
        (first_wrong, {**told, "transcript": [(request, 1) for request in requests]}), (lost_lines, {**told, "texts": [text, ""]}), (strays, {**told, "one": text, "other": ""}),
        (strays, {**told, "one": text, "other": "", "careful": True}), (lets_stuck, {"state": state, "thing": stuck_set(state)}), (lets_order, {"state": here, "thing": freeing_order(here)}),
        (lets_safe, {"state": here, "thing": safe_order(here)}), (lets_unsafe, {"state": state, "thing": unsafe_set(state)}),
    ]
    for word in FAULTS:
        for sizes in (ONE, TWO):
            rows.append((seen, {"program": program, "sizes": sizes, "word": word}))
            rows.append((lets_seen, {"program": program, "sizes": sizes, "word": word, "thing": seen(program, sizes, word)}))
    for call in (stuck_set, freeing_order, is_stuck, lacking, safe_order, unsafe_set, is_safe, careful_moves, held_back, rough_moves, word_of, fewest_stops):
        rows.extend([(call, {"state": state}), (call, {"state": here})])
    for call in (edges, greatest_want, ranks, ring):
        rows.extend([(call, {"program": program}), (call, {"program": plain})])
    return rows


def done(call, told):
    """What a call returns; all of it, if it yields."""
    result = call(**told)
    return list(result) if inspect.isgenerator(result) else result


class TestGeneralRules(unittest.TestCase):
    def test_all_functions_are_called(self):
        named = {row.split()[0] for rows in FUNCTIONS.values() for row in rows}
        self.assertLessEqual(named, {call.__name__ for call, _ in calls()})

    def test_results_are_new_and_arguments_stay(self):
        for (call, told), (_, same) in zip(calls(), calls()):
            first = done(call, told)
            kept = text_of(first)
            self.assertEqual(text_of(list(told.values())), text_of(list(same.values())), call.__name__)
            # Changed results change neither the next ones nor the arguments.
            spoil(first)
            self.assertEqual(text_of(done(call, told)), kept, call.__name__)
            self.assertEqual(text_of(list(told.values())), text_of(list(same.values())), call.__name__)

    def test_results_do_not_change_with_the_arguments(self):
        for call, told in calls():
            told = copy.deepcopy(told)
            result = done(call, told)
            kept = text_of(result)
            for part in told.values():
                spoil(part)
            self.assertEqual(text_of(result), kept, call.__name__)

    def test_by_position(self):
        for call, told in calls():
            names = [name for name in inspect.signature(call).parameters if name in told and name != "careful"]
            more = {"careful": told["careful"]} if "careful" in told else {}
            result = call(*[told[name] for name in names], **more)
            result = list(result) if inspect.isgenerator(result) else result
            self.assertEqual(text_of(result), text_of(done(call, told)), call.__name__)

    def test_objects_copy_what_they_keep(self):
        amounts, there, moves = {"a": 1}, {("load", 0): 1}, list(MOVES)
        sizes, state, run = Sizes(amounts), State(PROGRAM, ONE, there), Run(PROGRAM, ONE, moves)
        kept = copy.deepcopy((str(sizes), state.jobs_by_position(), run.done()))
        for thing in (amounts, there, moves, sizes.by_name(), sizes.names(), state.jobs_by_position(), run.done()):
            spoil(thing)
        self.assertEqual((str(sizes), state.jobs_by_position(), run.done()), kept)
        goods, watch, runtime, console = Goods(PROGRAM), Watch(PROGRAM, ONE), Runtime(PROGRAM, ONE), Console()
        watch(MOVES[0])
        runtime.enter("load", 0)
        for thing in (goods.least(), list(goods.grid()), list(goods), watch.words(), runtime.numbers()):
            spoil(thing)
        self.assertEqual(([str(one) for one in goods.least()], watch.words(), runtime.numbers()), (["a 1 b 2", "a 2 b 1"], ["safe"], {1: ("load", 0)}))
        self.assertEqual(console.run("program " + CROSSED), "ok")
