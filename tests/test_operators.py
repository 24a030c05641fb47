"""What operators and properties lead to, followed by names through the source of the package.

A call is taken to lead to each function, method and class of that name,
whatever file or class it stands in, as rules L5 and L28 of LANGUAGE.md have it.
"""

import ast
import re
import unittest

from tests.test_language import CHANGING, files

OPERATORS = set("__contains__ __getitem__ __eq__ __str__ __len__ __add__ __sub__ __mul__ __and__ __or__ __rshift__".split())
MAKERS = ("list", "dict", "set", "sorted")


def is_property(function):
    return any(isinstance(part, ast.Name) and part.id == "property" for part in function.decorator_list)


def is_new(value):
    """Whether a value is a list, dict or set that is created where it stands."""
    if isinstance(value, (ast.List, ast.Dict, ast.Set, ast.ListComp, ast.DictComp, ast.SetComp)):
        return True
    if isinstance(value, ast.Call) and isinstance(value.func, ast.Name):
        return value.func.id in MAKERS
    if isinstance(value, ast.Subscript):
        return isinstance(value.slice, ast.Slice)
    return isinstance(value, ast.BinOp) and (is_new(value.left) or is_new(value.right))


class Source:
    """Functions and classes by their names."""

    def __init__(self, texts):
        self.functions = {}
        self.properties = set()
        self.starts = []
        for text in texts:
            for node in ast.parse(text).body:
                if isinstance(node, ast.FunctionDef):
                    self.functions.setdefault(node.name, []).append(node)
                if isinstance(node, ast.ClassDef):
                    for function in [part for part in node.body if isinstance(part, ast.FunctionDef)]:
                        self.learn(node.name, function)

    def learn(self, owner, function):
        name = function.name
        if name == "__init__":
            name = owner
        self.functions.setdefault(name, []).append(function)
        if is_property(function):
            self.properties.add(name)
        if is_property(function) or name in OPERATORS:
            self.starts.append(function)

    def named_in(self, function):
        for node in ast.walk(function):
            if isinstance(node, ast.Call) and isinstance(node.func, ast.Name):
                yield node.func.id
            if isinstance(node, ast.Attribute) and isinstance(node.ctx, ast.Load):
                yield node.attr

    def behind(self, start):
        """All functions to which one leads, itself among them."""
        found = [start]
        for function in found:
            for name in self.named_in(function):
                found.extend(one for one in self.functions.get(name, []) if one not in found)
        return found


class Changes:
    """What a function changes that it did not create itself, and what it calls that it is handed."""

    def __init__(self, function):
        self.function = function
        self.handed = {part.arg for part in function.args.args + function.args.kwonlyargs}
        self.values = {}
        for node in ast.walk(function):
            if isinstance(node, ast.Assign):
                for target in node.targets:
                    self.assign(target, node.value)
            if isinstance(node, (ast.For, ast.comprehension)):
                self.assign(node.target, None)

    def assign(self, target, value):
        if isinstance(target, ast.Name):
            self.values.setdefault(target.id, []).append(value)
        elif isinstance(target, (ast.Tuple, ast.List)):
            for part in target.elts:
                self.assign(part, None)

    def is_own(self, value):
        if isinstance(value, ast.Name):
            return value.id not in self.handed and all(is_new(one) for one in self.values.get(value.id, [None]))
        if isinstance(value, ast.Subscript):
            return self.is_own(value.value)
        if isinstance(value, ast.Call) and isinstance(value.func, ast.Attribute) and value.func.attr == "setdefault":
            return self.is_own(value.func.value)
        return False

    def may_set(self, target):
        # An object that is made gets its attributes; a property keeps what it worked out.
        if not isinstance(target.value, ast.Name):
            return False
        if target.value.id == "self":
            return self.function.name == "__init__" or is_property(self.function)
        made = self.values.get(target.value.id, [None])
        return all(isinstance(one, ast.Call) and isinstance(one.func, ast.Name) and one.func.id[0].isupper() for one in made)

    def told(self):
        for node in ast.walk(self.function):
            if isinstance(node, ast.Attribute) and not isinstance(node.ctx, ast.Load) and not self.may_set(node):
                yield ast.unparse(node)
            if isinstance(node, ast.Subscript) and not isinstance(node.ctx, ast.Load) and not self.is_own(node.value):
                yield ast.unparse(node)
            if isinstance(node, ast.Call) and isinstance(node.func, ast.Name):
                if node.func.id in self.handed or node.func.id in self.values:
                    yield ast.unparse(node)
            if isinstance(node, ast.Call) and isinstance(node.func, ast.Attribute):
                if node.func.attr in CHANGING and not self.is_own(node.func.value):
                    yield ast.unparse(node)


def changed_by_operators(texts):
    """Tuples (operator or property, function, what it changes)."""
    source = Source(texts)
    found = []
    for start in source.starts:
        for function in source.behind(start):
            found.extend((start.name, function.name, told) for told in Changes(function).told())
    return found


class TestOperators(unittest.TestCase):
    def test_what_is_found(self):
        head = "class Box:\n  def __contains__(self, x):\n    return self.after(x)\n"
        bad = (
            "class Other:\n  def after(self, x):\n    self.n = x\n",
            "class Other:\n  def after(self, x):\n    self.rows.append(x)\n",
            "def after(x):\n  x[0] = 1\n",
            "def after(x):\n  return x()\n",
            "def after(x):\n  rows = x\n  rows.append(1)\n",
            "def after(x):\n  return Thing(x)\nclass Thing:\n  def __init__(self, x):\n    self.go()\n  def go(self):\n    self.n = 1\n",
        )
        for text in bad:
            self.assertEqual(len(changed_by_operators([head, text])), 1, text)
        good = (
            "def after(x):\n  rows = []\n  rows.append(x)\n  return rows\n",
            "def after(x):\n  table = {}\n  table[x] = []\n  table[x].append(x)\n  return table\n",
            "def after(x):\n  return Thing(x)\nclass Thing:\n  def __init__(self, x):\n    self.n = x\n  def go(self):\n    self.n = 1\n",
            "def before(x):\n  x[0] = 1\n",
        )
        for text in good:
            self.assertEqual(changed_by_operators([head, text]), [], text)

    def test_operators_change_nothing(self):
        self.assertEqual(changed_by_operators([text for _, text in files()]), [])

    def test_kept_answers(self):
        # What a property keeps is None at first, and is named by nothing else in the package.
        texts = [text for _, text in files()]
        kept = 0
        for text in texts:
            for owner in [node for node in ast.walk(ast.parse(text)) if isinstance(node, ast.ClassDef)]:
                starts = [ast.unparse(part) for one in owner.body if getattr(one, "name", "") == "__init__" for part in one.body]
                for function in [one for one in owner.body if isinstance(one, ast.FunctionDef) and is_property(one)]:
                    set_there = [node for node in ast.walk(function) if isinstance(node, ast.Assign)]
                    for node in set_there:
                        name = node.targets[0].attr
                        self.assertEqual(len(set_there), 1)
                        self.assertIn(f"self.{name} = None", starts)
                        self.assertEqual(sum(len(re.findall(rf"\b{name}\b", one)) for one in texts), 4, name)
                        kept += 1
        self.assertGreaterEqual(kept, 5)

    def test_operators_are_looked_at(self):
        source = Source([text for _, text in files()])
        names = {function.name for function in source.starts}
        self.assertTrue({"__contains__", "__rshift__", "__eq__", "__len__", "need", "free"} <= names)
        named = {one.name for start in source.starts if start.name == "__contains__" for one in source.behind(start)}
        self.assertTrue({"all_moves", "line_moves", "after"} <= named)
