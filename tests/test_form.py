"""The form of the package: where the interface's names are defined, and rules of the language that can be counted."""

import ast
import builtins
import inspect
import os
import unittest
from importlib import import_module

HERE = os.path.dirname(os.path.abspath(__file__))
PACKAGE = os.path.join(os.path.dirname(HERE), "asifforever")

INTERFACE = {
    "systems": {
        "System": "many moves", "led": "system row state", "led_all": "system row", "lot_behind": "system row",
        "share_of": "system row", "is_spread": "many thing", "spread_behind": "system spread depth", "steps": "system",
        "system_text": "system", "read_system": "text"},
    "steady": {
        "closed_lots": "system", "rounds_of": "system lot", "steady_spreads": "system", "is_steady": "system thing",
        "tree_weight": "system state", "by_trees": "system"},
    "merging": {
        "merging_row": "system", "is_book": "system thing", "apart": "system", "lots_behind": "system depth",
        "told_shares": "system depth", "hasty": "system depth", "undecided": "system depth", "bias": "system depth",
        "depth_for": "system share"},
    "drawing": {
        "drawn": "system coins plan", "Drawer": "system", "drawer_text": "drawer", "drawer_of": "system text",
        "is_drawn": "system thing"},
    "once": {"once": "system length row", "once_shares": "system length blocks"},
    "bits": {
        "move_by_bits": "system bits", "told_by_bits": "system many", "open_by_bits": "system many",
        "drawn_by_bits": "system bits plan"},
    "orders": {
        "is_order": "system thing", "breaking": "system order", "ends": "system order",
        "least_order": "system low high", "merging_by_ends": "system order",
        "drawn_by_ends": "system order coins plan"},
    "models": {
        "Model": "many levels weights ties", "weight": "model picture", "fitting": "model",
        "spins": "many pairs same other", "sets_apart": "many pairs number", "colourings": "many pairs values",
        "stacks": "rows columns most"},
    "renewals": {
        "local_shares": "model picture place", "renewed": "model picture renewal", "cells": "model place",
        "system_of": "model"},
    "rising": {
        "is_below": "model flips one other", "rises": "model flips", "is_drawn_picture": "model flips thing",
        "flips_for": "model", "ends_of": "model flips", "drawn_picture": "model flips coins plan"},
    "covers": {"covered": "model cover renewal", "drawn_by_cover": "model coins plan"},
    "tables": {
        "total": "model", "total_by": "model order", "share_of_picture": "model picture", "shares_at": "model place",
        "joint": "model places", "likeliest": "model", "held_at": "model place value"},
    "distances": {
        "distance": "many one other", "far_apart": "system depth", "far_from_steady": "system depth",
        "settles": "system", "depth_within": "system share"},
    "sampling": {"Sampler": "model flips"},
    "modeltexts": {"model_text": "model", "read_model": "text"},
    "desk": {"Desk": ""},
}

# The methods that the interface lists, with their arguments; each stands in the body of its class.
METHODS = {
    ("systems", "System"): {"__eq__": "other"},
    ("models", "Model"): {"__eq__": "other"},
    ("drawing", "Drawer"): {"read": "move", "state": "", "depth": "", "lot": "", "coins": "", "copy": ""},
    ("sampling", "Sampler"): {
        "read": "renewal", "picture": "", "pair": "", "coins": "", "weigh": "place weights", "tie": "one other table",
        "undo": "", "model": "", "touched": "", "led_again": "", "copy": ""},
    ("desk", "Desk"): {"tell": "line"},
}

ALLOWED = (
    "len range enumerate zip min max sum abs sorted reversed int str bool bytes list tuple dict set isinstance ord "
    "repr any all divmod pow getattr hasattr setattr iter next map type Exception ValueError TypeError KeyError "
    "IndexError LookupError ZeroDivisionError NotImplementedError NotImplemented super property staticmethod "
    "classmethod").split()
BARRED = (
    "register mro elements open input law with_traceback add_note breakpoint compile copyright credits delattr dir "
    "eval exec exit gc globals help id locals os quit sys vars typing enum Enum Generic Protocol ABC namedtuple "
    "dataclass overload contextmanager").split()
LIBRARY = {
    "math": ("gcd", "lcm", "isqrt", "comb", "perm", "factorial"),
    "heapq": ("heappush", "heappop", "heapify", "heapreplace", "heappushpop"),
    "itertools": (
        "product", "combinations", "permutations", "chain", "accumulate", "pairwise", "islice", "zip_longest"),
    "collections": ("defaultdict", "deque"),
}
MODULE_LEVEL = (ast.Import, ast.ImportFrom, ast.FunctionDef, ast.ClassDef, ast.Assign, ast.Expr)
NOT_USED = (ast.AsyncFunctionDef, ast.Await, ast.Global, ast.Import, ast.Div, ast.Set)


def files():
    """The names of the package's files with their texts."""
    found = []
    for name in sorted(os.listdir(PACKAGE)):
        if name != "__pycache__":
            with open(os.path.join(PACKAGE, name), encoding="utf-8") as file:
                found.append((name, file.read()))
    return found


def trees():
    """The names of the package's files with what they are parsed to."""
    return [(name, ast.parse(text)) for name, text in files()]


def bound_names(tree):
    """All names that a file binds anywhere."""
    for node in ast.walk(tree):
        if isinstance(node, ast.Name) and isinstance(node.ctx, ast.Store):
            yield node.id
        elif isinstance(node, ast.arg):
            yield node.arg
        elif isinstance(node, (ast.FunctionDef, ast.ClassDef)):
            yield node.name
        elif isinstance(node, ast.alias):
            yield node.asname or node.name


class InterfaceTest(unittest.TestCase):
    def test_names_are_defined_where_they_stand_with_their_arguments(self):
        for module, names in INTERFACE.items():
            for name, arguments in names.items():
                with self.subTest(f"{module}.{name}"):
                    thing = getattr(import_module("asifforever." + module), name)
                    self.assertEqual(thing.__module__, "asifforever." + module)
                    self.assertEqual(list(inspect.signature(thing).parameters), arguments.split())

    def test_methods_stand_in_their_classes(self):
        for (module, name), methods in METHODS.items():
            made = getattr(import_module("asifforever." + module), name)
            for method, arguments in methods.items():
                with self.subTest(f"{module}.{name}.{method}"):
                    found = list(inspect.signature(vars(made)[method]).parameters)
                    self.assertEqual(found, ["self"] + arguments.split())


class FormTest(unittest.TestCase):
    def test_files(self):
        for name, _ in files():
            self.assertRegex(name, r"^[a-z_0-9]+[.]py$")

    def test_signs_and_sizes(self):
        for name, text in files():
            with self.subTest(name):
                self.assertTrue(all(sign == "\n" or " " <= sign <= "~" for sign in text))
                self.assertLessEqual(len(text.splitlines()), 399)
                self.assertLessEqual(max(len(line) for line in text.splitlines()), 120)
        for name, tree in trees():
            for node in ast.walk(tree):
                if isinstance(node, ast.FunctionDef):
                    self.assertLessEqual(node.end_lineno - node.lineno + 1, 40, f"{name}: {node.name}")

    def test_imports(self):
        for name, tree in trees():
            own = [node for node in ast.walk(tree) if isinstance(node, ast.ImportFrom)]
            for node in own:
                with self.subTest(f"{name}:{node.lineno}"):
                    self.assertIn(node, tree.body)
                    self.assertEqual(node.level, 0)
                    for alias in node.names:
                        self.assertIsNone(alias.asname)
                        if node.module in LIBRARY:
                            self.assertIn(alias.name, LIBRARY[node.module])
                        else:
                            self.assertTrue(node.module.startswith("asifforever."))
                            found = getattr(import_module(node.module), alias.name)
                            self.assertEqual(getattr(found, "__module__", node.module), node.module)

    def test_statements(self):
        for name, tree in trees():
            for node in tree.body:
                self.assertIsInstance(node, MODULE_LEVEL, f"{name}:{node.lineno}")
            for node in ast.walk(tree):
                self.assertNotIsInstance(node, NOT_USED, f"{name}: {ast.dump(node)[:80]}")
                if isinstance(node, (ast.FunctionDef, ast.ClassDef)):
                    self.assertTrue(ast.get_docstring(node) or node.name.startswith("__"), node.name)
                if isinstance(node, ast.Constant):
                    self.assertNotIsInstance(node.value, (float, complex))

    def test_generator_expressions(self):
        # Classes of the package have __eq__, so any, all, sum and the like take lists.
        for name, tree in trees():
            for node in ast.walk(tree):
                self.assertNotIsInstance(node, ast.GeneratorExp, name)

    def test_names(self):
        for name, tree in trees():
            bound = set(bound_names(tree))
            for node in ast.walk(tree):
                if isinstance(node, ast.Name) and isinstance(node.ctx, ast.Load) and node.id not in bound:
                    self.assertIn(node.id, ALLOWED, f"{name}:{node.lineno}")
            for word in bound - {"__init__", "__eq__"}:
                self.assertFalse(hasattr(builtins, word) or word in BARRED, f"{name}: {word}")

    def test_imports_and_classes_lend_their_names_to_nothing_else(self):
        for name, tree in trees():
            taken = [alias.name for node in tree.body if isinstance(node, ast.ImportFrom) for alias in node.names]
            taken += [node.name for node in tree.body if isinstance(node, ast.ClassDef)]
            self.assertEqual(len(taken), len(set(taken)), name)
            functions = [node for node in tree.body if isinstance(node, ast.FunctionDef)]
            methods = [node for made in tree.body if isinstance(made, ast.ClassDef) for node in made.body]
            for function in functions + [node for node in methods if isinstance(node, ast.FunctionDef)]:
                inside = [word for word in bound_names(function) if word != function.name]
                self.assertFalse(set(inside) & set(taken), f"{name}: {function.name}")

    def test_no_two_files_import_from_each_other(self):
        imports = {}
        for name, tree in trees():
            own = [node.module for node in tree.body if isinstance(node, ast.ImportFrom)]
            imports["asifforever." + name.removesuffix(".py")] = [word for word in own if word not in LIBRARY]
        while imports:
            free = [name for name, behind in imports.items() if not any(word in imports for word in behind)]
            self.assertTrue(free, sorted(imports))
            imports = {name: behind for name, behind in imports.items() if name not in free}

    def test_names_are_used(self):
        for name, text in files():
            for node in ast.walk(ast.parse(text)):
                if isinstance(node, ast.ImportFrom):
                    for alias in node.names:
                        used = [other for other in ast.walk(ast.parse(text))
                                if isinstance(other, ast.Name) and other.id == alias.name]
                        self.assertTrue(used, f"{name}: {alias.name}")


if __name__ == "__main__":
    unittest.main()
