"""A slow second telling of what DOC.md says, and programs made by chance, for comparison."""

import random

from leastpools.errors import InvalidProgram
from leastpools.programs import Program
from leastpools.sizes import Sizes


def random_code(rng, pools, callees, depth, left=()):
    """Some code; left is what a take around it may give back."""
    left = dict(left)
    code = []
    for _ in range(rng.choice((0, 1, 1, 1, 2, 2, 3) if depth < 3 else (0, 0, 1))):
        word = rng.choice(("run", "take", "take", "take", "give", "give", "either", "repeat", "both", "call"))
        if word == "run":
            code.append(("run",))
        elif word == "take":
            amounts = tuple((pool, rng.choice((1, 1, 2, 3))) for pool in rng.sample(pools, rng.choice((1, 1, min(2, len(pools))))))
            code.append(("take", amounts, random_code(rng, pools, callees, depth + 1, amounts)))
        elif word == "give":
            some = [pool for pool in left if left[pool]]
            if some:
                pool = rng.choice(some)
                number = rng.randint(1, left[pool])
                left[pool] -= number
                code.append(("give", pool, number))
        elif word == "repeat":
            code.append(("repeat", rng.choice((1, 2)), random_code(rng, pools, callees, depth + 1)))
        elif word == "call":
            if callees:
                code.append(("call", rng.choice(callees), rng.choice(pools)))
        else:
            code.append((word, random_code(rng, pools, callees, depth + 1), random_code(rng, pools, callees, depth + 1)))
    return tuple(code)


def random_program(seed, most_jobs=3, most_limit=2):
    """A program that depends on the seed alone."""
    rng = random.Random(seed)
    while True:
        pools = tuple(rng.sample(("a", "b", "c", "d"), rng.choice((1, 2, 2, 3))))
        names = rng.sample(("load", "save", "mend", "wash"), rng.randint(1, most_jobs))
        jobs = []
        for at, name in enumerate(names):
            jobs.append((name, rng.randint(0 if rng.random() < 0.1 else 1, most_limit), random_code(rng, pools, names[:at], 0)))
        try:
            return Program(pools, tuple(jobs))
        except InvalidProgram:
            continue


def plain_inside(rng, pool, callees, depth):
    """Some code inside a take of a plain program."""
    code = [("run",)] * rng.randint(0, 1)
    word = rng.choice(("take", "take", "take", "either", "repeat", "call", "run")) if depth < 4 else "run"
    if word == "take":
        code.append(("take", ((pool, rng.choice((1, 1, 2, 3))),), plain_inside(rng, pool, callees, depth + 1)))
    if word == "either":
        code.append((word, plain_inside(rng, pool, callees, depth + 1), plain_inside(rng, pool, callees, depth + 1)))
    if word == "repeat":
        code.append((word, rng.randint(1, 2), plain_inside(rng, pool, callees, depth + 1)))
    if word == "call" and callees:
        code.append((word, rng.choice(callees), pool))
    return tuple(code + [("run",)] * rng.randint(0, 1))


def plain_outside(rng, pools, callees, depth):
    """Some code outside of all takes of a plain program."""
    code = []
    for _ in range(rng.choice((0, 1, 1, 2))):
        word = rng.choice(("take", "take", "take", "either", "repeat", "call", "run") if depth < 3 else ("take", "run"))
        pool = rng.choice(pools)
        if word == "run":
            code.append((word,))
        elif word == "take":
            code.append((word, ((pool, rng.choice((1, 1, 2, 3))),), plain_inside(rng, pool, callees, depth + 1)))
        elif word == "either":
            code.append((word, plain_outside(rng, pools, callees, depth + 1), plain_outside(rng, pools, callees, depth + 1)))
        elif word == "repeat":
            code.append((word, rng.randint(1, 2), plain_outside(rng, pools, callees, depth + 1)))
        elif callees:
            code.append((word, rng.choice(callees), pool))
    return tuple(code)


def plain_program(seed, is_plain):
    """A plain program that depends on the seed alone; what is called may make it another one."""
    rng = random.Random(seed)
    while True:
        pools = tuple(rng.sample(("a", "b", "c"), rng.randint(1, 2)))
        names = ("load", "save", "mend")[:rng.randint(1, 3)]
        jobs = [(name, rng.randint(0, 3), plain_outside(rng, pools, names[:at], 0)) for at, name in enumerate(names)]
        try:
            program = Program(pools, tuple(jobs))
        except InvalidProgram:
            continue
        if is_plain(program):
            return program


class Model:
    """The code of a job, done step by step with frames; it numbers the waits by the text."""

    def __init__(self, program, name):
        self.codes = {job[0]: job[2] for job in program.jobs}
        self.pools = program.pools
        self.many = 0
        self.code = self.numbered(self.codes[name])

    def numbered(self, code):
        """The code without calls and repeats, with numbers at the waits."""
        out = []
        for statement in code:
            word = statement[0]
            if word == "repeat":
                _, number, inner = statement
                out.extend(self.numbered((("either", (), inner + ((("repeat", number - 1, inner),) if number > 1 else ())),)))
            elif word == "call":
                out.extend(self.numbered((("take", ((statement[2], 1),), self.codes[statement[1]]),)))
            elif word == "take":
                self.many += 1
                number = self.many - 1
                out.append(("take", number, dict(statement[1]), self.numbered(statement[2])))
            elif word == "both":
                self.many += 1
                number = self.many - 1
                out.append(("both", number, self.numbered(statement[1]), self.numbered(statement[2])))
            elif word == "either":
                out.append(("either", self.numbered(statement[1]), self.numbered(statement[2])))
            else:
                out.append(statement)
        return out

    # A strand is a list of frames [code, index, what the block still has]; a
    # strand that waits is (number, want, frames) or (number, first, second, frames).

    def settle(self, frames):
        """All ways in which a strand goes on by itself until it waits (or None: it is over)."""
        frames = [list(frame[:2]) + [dict(frame[2])] for frame in frames]
        while frames:
            code, index, _ = frames[-1]
            if index == len(code):
                frames.pop()
                continue
            frames[-1][1] += 1
            statement = code[index]
            if statement[0] == "give":
                frames[-1][2][statement[1]] -= statement[2]
            elif statement[0] == "take":
                return [(statement[1], dict(statement[2]), statement[3], frames)]
            elif statement[0] == "either":
                return [way for inner in statement[1:] for way in self.settle(frames + [[inner, 0, {}]])]
            elif statement[0] == "both":
                return self.around(statement[1], self.settle([[statement[2], 0, {}]]), self.settle([[statement[3], 0, {}]]), frames)
        return [None]

    def around(self, number, firsts, seconds, frames):
        ways = []
        for first in firsts:
            for second in seconds:
                if first is None and second is None:
                    ways.extend(self.settle(frames))
                else:
                    ways.append((number, first, second, None, frames))
        return ways

    def first(self):
        return self.settle([[self.code, 0, {}]])

    def position(self, way):
        if way is None:
            return None
        if len(way) == 4:
            return way[0]
        return (way[0], self.position(way[1]), self.position(way[2]))

    def own(self, way):
        held = {}
        for frame in way[-1]:
            for pool, number in frame[2].items():
                held[pool] = held.get(pool, 0) + number
        return Sizes(held)

    def strands(self, way, strand=()):
        """Tuples (strand, want or None, held) of all strands."""
        if way is None:
            return []
        if len(way) == 4:
            return [(strand, Sizes(way[1]), self.own(way))]
        return [(strand, None, self.own(way))] + self.strands(way[1], strand + (0,)) + self.strands(way[2], strand + (1,))

    def held(self, way):
        return sum((row[2] for row in self.strands(way)), start=Sizes({}))

    def after(self, way, strand):
        if not strand:
            _, want, code, frames = way
            return self.settle(frames + [[code, 0, want]])
        number, first, second, _, frames = way
        if strand[0] == 0:
            return self.around(number, self.after(first, strand[1:]), [second], frames)
        return self.around(number, [first], self.after(second, strand[1:]), frames)

    def need(self, take):
        """The need of a take: what is held and wanted, counting from the take on."""
        return Sizes(take[2]) | self.need_in(take[3], Sizes(take[2]))

    def need_in(self, code, held):
        need = Sizes({})
        for statement in code:
            if statement[0] == "give":
                held = held - Sizes({statement[1]: statement[2]})
            elif statement[0] == "take":
                need = need | (held + self.need(statement))
            elif statement[0] != "run":
                for inner in statement[-2:]:
                    need = need | self.need_in(inner, held)
        return need

    def needs_met(self, statement):
        """The greatest need of the takes that may be met in a statement."""
        if statement[0] == "take":
            return self.need(statement)
        if statement[0] in ("either", "both"):
            return self.greatest([self.needs_met(inner) for code in statement[-2:] for inner in code])
        return Sizes({})

    def greatest(self, some):
        total = Sizes({})
        for one in some:
            total = total | one
        return total

    def falls(self, way):
        """The falls of the outer strand of a way, by what is still to come in its frames."""
        rows = []
        need = Sizes({})
        if len(way) == 4:
            need = self.need(("take",) + way[:3])
        for code, index, left in reversed(way[-1]):
            left = dict(left)
            for statement in code[index:]:
                if statement[0] == "give":
                    rows.append((need, Sizes({statement[1]: statement[2]})))
                    left[statement[1]] -= statement[2]
                    need = Sizes({})
                need = need | self.needs_met(statement)
            if left:
                rows.append((need, Sizes(left)))
                need = Sizes({})
        return rows + [(need, Sizes({}))]

    def all_falls(self, way, strand=()):
        """Tuples (strand, falls) of all strands."""
        if way is None:
            return []
        rows = [(strand, self.falls(way))]
        if len(way) == 4:
            return rows
        return rows + self.all_falls(way[1], strand + (0,)) + self.all_falls(way[2], strand + (1,))

    def ways(self):
        """A dict from all positions that can be reached to how a job rests there."""
        found = {self.position(way): way for way in self.first() if way is not None}
        waiting = list(found.values())
        while waiting:
            way = waiting.pop()
            for strand, want, _ in self.strands(way):
                for later in self.after(way, strand) if want is not None else ():
                    if later is not None and self.position(later) not in found:
                        found[self.position(later)] = later
                        waiting.append(later)
        return found


def flat(position):
    """What positions are ordered by."""
    if position is None:
        return [-1]
    if isinstance(position, int):
        return [position]
    return [position[0]] + flat(position[1]) + flat(position[2])


def strands_at(position, strand=()):
    """All strands that wait."""
    if position is None:
        return []
    if isinstance(position, int):
        return [strand]
    return [strand] + strands_at(position[1], strand + (0,)) + strands_at(position[2], strand + (1,))
