"""Some of the rules of LANGUAGE.md, as far as they can be seen from the source."""

import ast
import os
import unittest

HERE = os.path.dirname(os.path.abspath(__file__))
PACKAGE = os.path.join(os.path.dirname(HERE), "leastpools")

BUILTINS = set(
    "len range enumerate zip min max sum abs sorted reversed int str bool bytes list tuple dict set frozenset "
    "isinstance ord repr any all divmod pow iter next Exception ValueError TypeError KeyError IndexError LookupError "
    "ZeroDivisionError ArithmeticError OverflowError RuntimeError NotImplementedError AttributeError StopIteration "
    "NotImplemented super property True False None".split()
)
METHODS = set(
    "append clear copy count endswith extend find get index insert isalnum isalpha isdigit islower isspace isupper "
    "items join keys ljust lower lstrip partition pop remove replace reverse rfind rjust rpartition rsplit rstrip "
    "setdefault split splitlines startswith strip update upper values zfill bit_length isascii".split()
)
ATTRIBUTES_BARRED = set(
    "items keys values pop update append clear extend insert remove reverse setdefault sort args encode decode hex "
    "fromhex format".split()
)
BARRED_WORDS = set(
    "type typing typing_extensions enum Enum IntEnum StrEnum Flag IntFlag Generic Protocol ABC ABCMeta namedtuple "
    "NamedTuple TypedDict TYPE_CHECKING abstractmethod".split()
)
OTHER_NAMES = set(
    "register mro elements open input law version_info with_traceback add_note attrgetter breakpoint builtins compile "
    "copyright credits delattr dir eval exec exit gc getattr globals hasattr help id importlib license locals "
    "methodcaller os quit setattr super type vars sys map filter hash object callable print file".split()
)
SPECIAL = set(
    "__init__ __eq__ __str__ __len__ __enter__ __exit__ __call__ __iter__ __add__ __sub__ __mul__ __and__ __or__ "
    "__rshift__ __contains__ __getitem__".split()
)


def files():
    for folder, _, names in os.walk(PACKAGE):
        for name in sorted(names):
            if name.endswith(".py"):
                path = os.path.join(folder, name)
                with open(path, encoding="utf-8") as handle:
                    yield name, handle.read()


def functions(tree):
    return [node for node in ast.walk(tree) if isinstance(node, ast.FunctionDef)]


def yields(function):
    return any(isinstance(node, (ast.Yield, ast.YieldFrom)) for node in ast.walk(function))


def attributes_set(tree):
    return {node.attr for node in ast.walk(tree) if isinstance(node, ast.Attribute) and isinstance(node.ctx, ast.Store)}


def local_names(function):
    names = {argument.arg for argument in ast.walk(function) if isinstance(argument, ast.arg)}
    return names | {node.id for node in ast.walk(function) if isinstance(node, ast.Name) and isinstance(node.ctx, ast.Store)}


CHANGING = set("append clear extend insert remove pop reverse setdefault update add discard sort".split())


def same_values(function):
    """Groups of names, fields and items of a function that may be the same value, by their text."""
    groups = {}
    for node in ast.walk(function):
        if isinstance(node, ast.Assign):
            parts = [node.value]
            for part in parts:
                if isinstance(part, ast.IfExp):
                    parts.extend([part.body, part.orelse])
                if isinstance(part, ast.BoolOp):
                    parts.extend(part.values)
            plain = [part for part in parts if isinstance(part, (ast.Name, ast.Attribute, ast.Subscript))]
            words = {ast.unparse(part) for part in [*plain, *node.targets]} if plain else set()
            for word in list(words):
                words |= groups.get(word, set())
            for word in words:
                groups[word] = words
    return groups


def walked(loop):
    """What a loop goes over, through enumerate and the like, too."""
    parts = [loop.iter]
    for part in parts:
        if isinstance(part, ast.IfExp):
            parts.extend([part.body, part.orelse])
        if isinstance(part, ast.BoolOp):
            parts.extend(part.values)
        if isinstance(part, ast.Call) and isinstance(part.func, ast.Attribute) and part.func.attr in ("items", "keys", "values"):
            parts.append(part.func.value)
        if isinstance(part, ast.Call) and isinstance(part.func, ast.Name) and part.func.id in ("enumerate", "zip", "reversed"):
            parts.extend(part.args)
    return parts


def changed_in(loop):
    """What is changed in a loop by methods of lists and dicts, or by items."""
    for statement in loop.body:
        for node in ast.walk(statement):
            if isinstance(node, ast.Call) and isinstance(node.func, ast.Attribute) and node.func.attr in CHANGING:
                yield node.func.value
            if isinstance(node, ast.Subscript) and not isinstance(node.ctx, ast.Load):
                yield node.value


def changes_what_it_walks(function):
    """Whether a loop of a function changes what it goes over, or what may be the same."""
    groups = same_values(function)
    for loop in ast.walk(function):
        if isinstance(loop, ast.For):
            over = set()
            for part in walked(loop):
                over |= groups.get(ast.unparse(part), set()) | {ast.unparse(part)}
            fields = {word.rpartition(".")[2] for word in over if "." in word and "(" not in word}
            for part in changed_in(loop):
                if ast.unparse(part) in over or (isinstance(part, ast.Attribute) and part.attr in fields):
                    return True
                if not is_copy(loop.iter) and written_with(part) & written_with(loop.iter):
                    return True
    return False


def is_copy(value):
    """Whether a value is `list(..)` of a name or a field."""
    if not isinstance(value, ast.Call) or not isinstance(value.func, ast.Name) or value.func.id != "list":
        return False
    return all(isinstance(part, (ast.Name, ast.Attribute)) for part in value.args)


def written_with(value):
    """The names and fields, by their text, with which a value is written; a call only by what is in its parts."""
    words = {ast.unparse(part) for part in ast.walk(value) if isinstance(part, (ast.Name, ast.Attribute))}
    return words - {"self"} - BUILTINS


NEW_BY = set("list dict sorted range tuple len sum min max int str abs any all set".split())


def begins_with(value):
    """The names with which a value begins that is not plainly a new one: that of the object off which it is read or called."""
    if isinstance(value, ast.Name):
        return {value.id}
    if isinstance(value, (ast.Attribute, ast.Subscript, ast.Starred)):
        return begins_with(value.value)
    parts = []
    if isinstance(value, ast.IfExp):
        parts = [value.body, value.orelse]
    if isinstance(value, ast.BoolOp):
        parts = value.values
    if isinstance(value, ast.BinOp):
        parts = [value.left, value.right]
    if isinstance(value, ast.Tuple):
        parts = value.elts
    if isinstance(value, ast.Call) and isinstance(value.func, ast.Attribute):
        parts = [value.func.value]
    if isinstance(value, ast.Call) and isinstance(value.func, ast.Name) and value.func.id in ("enumerate", "zip", "reversed"):
        parts = value.args
    return {name for part in parts for name in begins_with(part)}


def beginnings(function):
    """For each name of a function the names with which the values begin that it is given."""
    found = {}
    for node in ast.walk(function):
        pairs = []
        if isinstance(node, ast.Assign):
            pairs = [(target, node.value) for target in node.targets]
        if isinstance(node, (ast.For, ast.comprehension)):
            pairs = [(node.target, node.iter)]
        for target, value in pairs:
            for part in ast.walk(target):
                if isinstance(part, ast.Name) and isinstance(part.ctx, ast.Store):
                    found.setdefault(part.id, set()).update(begins_with(value))
    return found


def begins_in_the_end_with(value, found):
    names = begins_with(value)
    more = names
    while more:
        more = {one for name in more for one in found.get(name, set())} - names
        names = names | more
    return names


def changes_what_it_walks_off(function):
    """Rows in which a loop of a function changes what begins with the name of the object off which it walks something."""
    found = beginnings(function)
    rows = []
    for loop in ast.walk(function):
        if isinstance(loop, ast.For):
            over = begins_in_the_end_with(loop.iter, found)
            # Attributes that are assigned count here, too.
            inside = [node for statement in loop.body for node in ast.walk(statement)]
            set_there = [node.value for node in inside if isinstance(node, ast.Attribute) and isinstance(node.ctx, ast.Store)]
            for part in [*changed_in(loop), *set_there]:
                if over & begins_in_the_end_with(part, found):
                    rows.append(part.lineno)
    return rows


def is_barred(name):
    """Whether L12 bars a name."""
    if name.rstrip("0123456789_") in ("_cold", "_tuplegetter", "_outside", "_record", "_written_out", "_member_names"):
        return True
    return name.startswith(("_wall", "_pe_", "_dcw_", "_enum_", "_cm_", "_twin_re_", "_lay_", "_law_", "_stub_", "_sre", "_WallAttr"))


class TestLanguage(unittest.TestCase):
    def trees(self):
        return [(name, text, ast.parse(text)) for name, text in files()]

    def test_sizes_and_characters(self):
        for name, text in files():
            lines = text.split("\n")
            self.assertLessEqual(len(lines), 399, name)
            for line in lines:
                self.assertLessEqual(len(line), 120, (name, line))
                self.assertTrue(all(" " <= sign <= "~" for sign in line), (name, line))
            for function in functions(ast.parse(text)):
                self.assertLessEqual(function.end_lineno - function.lineno + 1, 40, (name, function.name))

    def test_imports(self):
        seen = {}
        for name, _, tree in self.trees():
            seen[name] = []
            body = [node for node in tree.body if not isinstance(node, ast.Expr)]
            for node in ast.walk(tree):
                self.assertNotIsInstance(node, (ast.Import, ast.Global, ast.AsyncFunctionDef))
                if isinstance(node, ast.ImportFrom):
                    self.assertIn(node, body)
                    self.assertEqual((node.level, node.module.split(".")[0]), (0, "leastpools"), name)
                    self.assertTrue(all(alias.asname is None and alias.name != "*" for alias in node.names))
                    seen[name].append(node.module.split(".")[1] + ".py")
        # Nothing imports itself, not even through others.
        while seen:
            free = [name for name in seen if not any(other in seen for other in seen[name])]
            self.assertTrue(free, seen)
            for name in free:
                del seen[name]

    def test_imported_names_are_defined_there(self):
        trees = {name[:-3]: tree for name, _, tree in self.trees()}
        for name, _, tree in self.trees():
            for node in ast.walk(tree):
                if isinstance(node, ast.ImportFrom):
                    made = set()
                    for part in trees[node.module.split(".")[1]].body:
                        if isinstance(part, (ast.FunctionDef, ast.ClassDef)):
                            made.add(part.name)
                        if isinstance(part, ast.Assign):
                            made.update(target.id for target in part.targets)
                    used = {part.id for part in ast.walk(tree) if isinstance(part, ast.Name)}
                    for alias in node.names:
                        self.assertIn(alias.name, made, name)
                        self.assertIn(alias.name, used, name)

    def test_module_level(self):
        for name, _, tree in self.trees():
            self.assertIsInstance(tree.body[0], ast.Expr, name)
            for node in tree.body[1:]:
                self.assertIsInstance(node, (ast.ImportFrom, ast.FunctionDef, ast.ClassDef, ast.Assign), name)
            bound = []
            for node in tree.body:
                if isinstance(node, (ast.FunctionDef, ast.ClassDef)):
                    bound.append(node.name)
                if isinstance(node, ast.Assign):
                    bound.extend(target.id for target in node.targets)
                if isinstance(node, ast.ImportFrom):
                    bound.extend(alias.name for alias in node.names)
            self.assertEqual(len(bound), len(set(bound)), name)

    def test_local_names(self):
        for name, _, tree in self.trees():
            above = {node.name for node in tree.body if isinstance(node, (ast.ClassDef, ast.FunctionDef))}
            above |= {alias.name for node in tree.body if isinstance(node, ast.ImportFrom) for alias in node.names}
            for function in functions(tree):
                used = local_names(function)
                self.assertFalse(used & above, (name, function.name, used & above))
                self.assertFalse(used & (BUILTINS | OTHER_NAMES), (name, function.name))
                self.assertNotIn(function.name, BUILTINS | OTHER_NAMES)

    def test_statements(self):
        barred = (ast.Lambda, ast.Set, ast.SetComp, ast.NamedExpr, ast.Div, ast.Await, ast.Delete, ast.Assert)
        for name, _, tree in self.trees():
            for node in ast.walk(tree):
                self.assertNotIsInstance(node, barred, (name, getattr(node, "lineno", 0)))
                if isinstance(node, ast.Constant):
                    self.assertNotIsInstance(node.value, (float, complex, bytes))
                if isinstance(node, ast.Compare) and any(isinstance(sign, (ast.Is, ast.IsNot)) for sign in node.ops):
                    self.assertTrue(all(isinstance(part, ast.Constant) for part in node.comparators), name)
                if isinstance(node, ast.AugAssign):
                    self.fail((name, node.lineno))
                if isinstance(node, ast.GeneratorExp):
                    self.fail((name, node.lineno))

    def test_only_own_errors_are_caught(self):
        own = {node.name for name, _, tree in self.trees() if name == "errors.py" for node in tree.body if isinstance(node, ast.ClassDef)}
        for name, _, tree in self.trees():
            for node in ast.walk(tree):
                if isinstance(node, ast.Try):
                    self.assertEqual((node.orelse, node.finalbody), ([], []), name)
                    for handler in node.handlers:
                        self.assertIsInstance(handler.type, ast.Name, name)
                        self.assertIn(handler.type.id, own)

    def test_calls(self):
        trees = self.trees()
        methods = {f.name for _, _, tree in trees for node in ast.walk(tree) if isinstance(node, ast.ClassDef) for f in node.body if isinstance(f, ast.FunctionDef)}
        own = {node.name for _, _, tree in trees for node in tree.body if isinstance(node, (ast.FunctionDef, ast.ClassDef))}
        for name, _, tree in trees:
            for node in ast.walk(tree):
                if isinstance(node, ast.Call) and isinstance(node.func, ast.Attribute):
                    self.assertIn(node.func.attr, methods | METHODS, (name, node.lineno))
            # What is taken from a table has a name of its own before it is called.
            tables = {part.targets[0].id for part in tree.body if isinstance(part, ast.Assign) and isinstance(part.value, ast.Dict)}
            told = {part.targets[0].id for part in ast.walk(tree) if isinstance(part, ast.Assign) and isinstance(part.value, ast.Subscript)
                    and isinstance(part.value.value, ast.Name) and part.value.value.id in tables}
            for node in ast.walk(tree):
                if isinstance(node, ast.Call) and isinstance(node.func, ast.Name):
                    self.assertIn(node.func.id, BUILTINS | own | told, (name, node.lineno))

    def test_methods_and_attributes(self):
        stored, plain, properties = set(), set(), set()
        for name, _, tree in self.trees():
            stored |= attributes_set(tree)
            for node in ast.walk(tree):
                if isinstance(node, ast.ClassDef):
                    for function in node.body:
                        if isinstance(function, ast.FunctionDef):
                            if function.decorator_list:
                                self.assertEqual([part.id for part in function.decorator_list], ["property"])
                                properties.add(function.name)
                            else:
                                plain.add(function.name)
        self.assertFalse(stored & plain)
        self.assertFalse(stored & properties)
        self.assertFalse(plain & properties)
        self.assertFalse(stored & (ATTRIBUTES_BARRED | METHODS))
        self.assertFalse(properties & METHODS)
        special = {name for name in plain if name.startswith("__")}
        self.assertLessEqual(special, SPECIAL)

    def test_generators(self):
        trees = self.trees()
        made = [f.name for _, _, tree in trees for f in functions(tree) if yields(f)]
        everything = [f.name for _, _, tree in trees for f in functions(tree)]
        for name in made:
            self.assertEqual(everything.count(name), 1, name)
            self.assertNotIn(name, METHODS)
            self.assertFalse(name.startswith("__"))

    def test_words(self):
        for name, text, tree in self.trees():
            for node in ast.walk(tree):
                for word in (getattr(node, "id", None), getattr(node, "attr", None), getattr(node, "arg", None)):
                    self.assertNotIn(word, BARRED_WORDS, name)
                if isinstance(node, ast.Constant) and isinstance(node.value, str):
                    self.assertNotIn("%", node.value, name)

    def test_lengths_return_lengths(self):
        for name, _, tree in self.trees():
            for function in functions(tree):
                if function.name == "__len__":
                    self.assertEqual(len(function.body), 1)
                    self.assertEqual(function.body[0].value.func.id, "len")
                if function.name == "__iter__":
                    self.assertEqual(len(function.body), 1)
                    self.assertEqual(function.body[0].value.func.id, "iter")

    def test_loops_leave_what_they_walk(self):
        bad = (
            "for row in rows: rows.append(row)",
            "for at, row in enumerate(rows): rows[at] = 1",
            "for row in table.items(): del table[row]",
            "for row in self.rows: other.rows.append(row)",
            # What is changed is written with what gives the rows.
            "for row in self.net.rows(n): found.setdefault(self.net.key(row), []).append(row)",
            "for row in found[left.pop()]: left.append(row)",
            "for row in rows if rows else others: others.clear()",
            # What is walked next is what is changed now.
            "while rows:\n  left = []\n  for row in rows: left.append(row)\n  rows = left",
        )
        for text in bad:
            self.assertTrue(changes_what_it_walks(ast.parse(text)), text)
        good = (
            "for row in list(rows): rows.append(row)",
            "for row in rows: left.append(row)\nrows = list(left)",
            "some = list(rows)\nfor row in some: rows.append(row)",
            "for row in self.net.rows(n):\n  key = self.net.key(row)\n  found.setdefault(key, []).append(row)",
        )
        for text in good:
            self.assertFalse(changes_what_it_walks(ast.parse(text)), text)
        for name, _, tree in self.trees():
            for function in functions(tree):
                self.assertFalse(changes_what_it_walks(function), (name, function.name))

    def test_loops_leave_the_object_off_which_they_walk(self):
        bad = (
            "for row in self.rows: self.others.append(row)",
            "for at, row in enumerate(self.rows): self.others.extend(row)",
            "found = self.near(1) + others\nfor row in found: self.met[row] = True",
            "rows = self.table[k]\nothers = self.others\nfor row in rows: others[row] = 1",
            "for row in self.rows:\n  for one in row: self.others.append(one)",
            "for row in net.rows(): net.many = row",
        )
        for text in bad:
            self.assertEqual(len(changes_what_it_walks_off(ast.parse(text))) > 0, True, text)
        good = (
            "for at in range(len(self.rows)): self.others.append(at)",
            "for row in list(self.rows): self.others.append(row)",
            "found = [row for row in self.rows]\nfor row in found: self.others.append(row)",
            "for row in self.rows: others.append(row)",
            "for row in net.rows(): self.rows.append(row)",
        )
        for text in good:
            self.assertEqual(changes_what_it_walks_off(ast.parse(text)), [], text)
        for name, _, tree in self.trees():
            for function in functions(tree):
                self.assertEqual(changes_what_it_walks_off(function), [], (name, function.name))

    def test_names_that_are_barred(self):
        for name in ("_outside", "_outside_2", "_cold7", "_walls", "_record", "_sre", "_law_of"):
            self.assertTrue(is_barred(name), name)
        for name in ("_records", "_written", "outside", "_laws", "_entry_bit", "_colder"):
            self.assertFalse(is_barred(name), name)
        for name, text, tree in self.trees():
            self.assertNotRegex(text, r"\b_wall\b|_WallAttr", name)
            for node in ast.walk(tree):
                for word in ("id", "attr", "arg", "name"):
                    used = getattr(node, word, None)
                    if isinstance(used, str):
                        self.assertFalse(is_barred(used), (name, node.lineno, used))
                        self.assertFalse(used.startswith("__") and not used.endswith("__"), (name, used))
