"""What operators, properties, __eq__, __str__, __repr__ and __len__ run: it changes nothing that it did not create.

Calls are followed by their names, so a call counts for every function and method of that name in the package.
"""

import ast
import pathlib
import unittest

FOLDER = pathlib.Path(__file__).resolve().parent.parent / "cliplore"
PURE = {"__eq__", "__str__", "__repr__", "__len__", "__bool__", "__contains__", "__add__", "__and__", "__or__",
        "__sub__"}
CHANGING = {"append", "clear", "extend", "insert", "pop", "remove", "reverse", "setdefault", "update", "sort", "add",
            "discard"}
HEAPS = {"heappush", "heappop", "heapify", "heapreplace", "heappushpop"}
MAKERS = {"list", "dict", "sorted"}


class Package:
    """The functions and classes of the package by their names, and the attributes that its classes assign."""

    def __init__(self):
        self.functions = {}
        self.classes = {}
        self.attributes = set()
        self.roots = []
        for path in sorted(FOLDER.rglob("*.py")):
            self.read(path, ast.parse(path.read_text("ascii")))

    def read(self, path, tree):
        for node in ast.walk(tree):
            if isinstance(node, ast.ClassDef):
                self.classes.setdefault(node.name, []).append(node)
            if isinstance(node, ast.FunctionDef):
                node.file = path.name
                self.functions.setdefault(node.name, []).append(node)
                marks = [mark.id for mark in node.decorator_list if isinstance(mark, ast.Name)]
                if node.name in PURE or "property" in marks:
                    self.roots.append(node)
            if isinstance(node, ast.Attribute) and isinstance(node.ctx, ast.Store):
                self.attributes.add(node.attr)

    def called(self, function):
        """The functions and methods of the package that the function may call."""
        for node in ast.walk(function):
            if isinstance(node, ast.Call):
                name = node.func.id if isinstance(node.func, ast.Name) else node.func.attr
                for made in self.classes if name == "cls" else [name]:
                    yield from self.begun(made)
                # The __init__ of a base class stands in the class that is created, see begun.
                yield from self.functions.get(name, []) if name != "__init__" else []

    def begun(self, name):
        """Each __init__ that runs when an object of a class of this name is created."""
        for found in self.classes.get(name, []):
            yield from [row for row in found.body if isinstance(row, ast.FunctionDef) and row.name == "__init__"]
            for base in found.bases:
                yield from self.begun(base.id)

    def run(self):
        """All that operators and their like run."""
        waiting, seen = list(self.roots), []
        while waiting:
            function = waiting.pop()
            if function not in seen:
                seen.append(function)
                waiting.extend(self.called(function))
        return seen


def is_own(value):
    return (isinstance(value, (ast.List, ast.Dict, ast.ListComp))
            or isinstance(value, ast.Call) and isinstance(value.func, ast.Name) and value.func.id in MAKERS)


def own_names(function):
    """The plain local names to which the function assigns nothing but lists and dicts that it creates."""
    own, other = set(), {arg.arg for arg in ast.walk(function.args) if isinstance(arg, ast.arg)}
    for node in ast.walk(function):
        if isinstance(node, ast.Assign):
            for target in node.targets:
                if isinstance(target, ast.Name):
                    (own if is_own(node.value) else other).add(target.id)
                else:
                    other |= {name.id for name in ast.walk(target)
                              if isinstance(name, ast.Name) and isinstance(name.ctx, ast.Store)}
        if isinstance(node, ast.For):
            other |= {name.id for name in ast.walk(node.target) if isinstance(name, ast.Name)}
    return own - other


def faults(package, function):
    """The rows in which the function changes what is not its own, or calls what something holds."""
    own = own_names(function)
    parameters = {arg.arg for arg in ast.walk(function.args) if isinstance(arg, ast.arg)}
    for node in ast.walk(function):
        changed = None
        if isinstance(node, (ast.Subscript, ast.Attribute)) and not isinstance(node.ctx, ast.Load):
            new = isinstance(node, ast.Attribute) and function.name == "__init__" and node.value.id == "self"
            changed = None if new else node.value
        if isinstance(node, ast.AugAssign) and not isinstance(node.target, ast.Name):
            yield node.lineno
        if isinstance(node, ast.Call) and isinstance(node.func, ast.Attribute):
            if node.func.attr in CHANGING:
                changed = node.func.value
            if node.func.attr in package.attributes:
                yield node.lineno
        if isinstance(node, ast.Call) and isinstance(node.func, ast.Name) and node.func.id in HEAPS:
            changed = node.args[0]
        if isinstance(node, ast.Call) and isinstance(node.func, ast.Name) and node.func.id in parameters - {"cls"}:
            yield node.lineno
        if changed is not None and not (isinstance(changed, ast.Name) and changed.id in own):
            yield node.lineno


class OperatorsTest(unittest.TestCase):
    def test_what_operators_run_changes_nothing(self):
        package = Package()
        for function in package.run():
            self.assertEqual(list(faults(package, function)), [], f"{function.file}: {function.name}")

    def test_the_operators_are_found(self):
        names = {function.name for function in Package().run()}
        self.assertLessEqual({"__and__", "__contains__", "__add__", "merged", "lead", "limit", "many"}, names)

    def test_faults_are_found(self):
        package = Package()
        for row in ("found[0].append(1)", "del found[0][1]", "found[0][1] = 2", "given.append(1)", "self.rows = []",
                    "given[0] = 1", "self.rows.append(1)", "given()", "found.index(1)", "heappush(given, 1)"):
            function = ast.parse(f"def told(self, given):\n    found = [[]]\n    {row}").body[0]
            self.assertEqual(list(faults(package, function)), [3], row)
        function = ast.parse("def told(self, given):\n    found = [[]]\n    found[0] = 1\n    found.append(2)").body[0]
        self.assertEqual(list(faults(package, function)), [])


if __name__ == "__main__":
    unittest.main()
