"""The interface: names, arguments and places of what has landed."""

import ast
import importlib
import inspect
import unittest

from wakesafe.bench import Bench
from wakesafe.desk import Desk
from tests.helper import BLOCK, GOOD, a_played, objects

ERRORS = ["WakeError", "InvalidFormula", "InvalidBlock", "InvalidMachine", "InvalidOrder", "InvalidText", "InvalidEvent",
          "InvalidGoal", "InvalidCommand", "Mismatch", "Refused", "NoRule", "NoName"]
CLASSES = {
    "errors": ERRORS,
    "formulas": ["Formula"],
    "blocks": ["Bit", "Signal", "Block"],
    "machines": ["Rule", "Machine"],
    "runs": ["Played"],
    "orders": ["Order"],
    "bench": ["Bench"],
    "desk": ["Desk"],
}
FUNCTIONS = {
    "runs": {"play": "(block, machine, events)"},
    "deciding": {
        "happens": "(block, machine, goal, without=())",
        "least": "(block, machine, goal, without=())",
        "goals": "(block, machine, without=())",
        "comes": "(block, machine, at, without=())",
        "culprits": "(block, machine, goal, without=())",
    },
    "papers": {
        "paper": "(block, machine, goal, without=())",
        "paper_holds": "(block, machine, goal, value, without=())",
    },
    "orders": {
        "sleep_safe": "(block, deeds)",
        "sleep_order": "(block, deeds)",
        "wake_safe": "(block, deeds)",
        "wake_order": "(block, deeds)",
    },
    "alike": {
        "alike": "(block, p, q, without=())",
        "parting": "(block, p, q, without=())",
    },
    "needs": {
        "needed_fences": "(block, machine, without=())",
        "needed_keepers": "(block, machine, without=())",
        "needless_rules": "(block, machine, without=())",
    },
}
METHODS = {
    "formulas.Formula": {"value": ["known"], "under": ["known"], "depends": ["name"], "put": ["formulas"]},
    "blocks.Bit": {},
    "blocks.Signal": {},
    "blocks.Block": {"bit": ["name"], "signal": ["name"], "keeping": ["names"], "fencing": ["names"]},
    "machines.Rule": {},
    "machines.Machine": {"without": ["at"], "rule_for": ["state", "event", "waits"]},
    "orders.Order": {"holds": ["value"], "without": ["deed"]},
    "bench.Bench": {"take": ["event"], "several": ["events"], "follow": ["machine"], "undo": [], "trial": [], "within": ["work"]},
    "desk.Desk": {"say": ["command"]},
}
CLASS_METHODS = {
    "formulas.Formula": {"of": ["name"], "always": ["value"], "read": ["text"]},
    "blocks.Block": {"read": ["text"]},
    "machines.Machine": {"read": ["text"]},
    "orders.Order": {"read": ["text"]},
}
PROPERTIES = {
    "formulas.Formula": ["needs"],
    "runs.Played": ["contents", "keepers"],
    "bench.Bench": ["machine", "events", "played"],
}
SETTERS = {"bench.Bench": ["machine"]}
CONSTRUCTORS = {
    "blocks.Bit": "(name, area, kept=False, keeper=False, start=False)",
    "blocks.Signal": "(name, formula, fence=None)",
    "blocks.Block": "(bits, signals=())",
    "machines.Rule": "(state, event, guard, then, deeds=())",
    "machines.Machine": "(first, rules=())",
    "orders.Order": "(deeds, pairs=())",
    "bench.Bench": "(block, machine)",
    "desk.Desk": "()",
}
ATTRIBUTES = {
    "Formula": ["names"],
    "Bit": ["name", "area", "kept", "keeper", "start"],
    "Signal": ["name", "formula", "fence"],
    "Block": ["bits", "signals", "areas", "fences"],
    "Rule": ["state", "event", "guard", "then", "deeds"],
    "Machine": ["first", "rules", "states", "areas", "fences"],
    "Played": ["state", "waits", "going", "powered", "raised", "rules", "answered", "goals", "view"],
    "Order": ["deeds", "pairs", "links", "many", "earliest"],
    "Bench": ["block"],
    "Desk": ["bench"],
}
OPERATORS = {
    "formulas.Formula": ["and", "or", "xor", "invert", "le", "ge", "eq", "str"],
    "blocks.Bit": ["eq", "str"],
    "blocks.Signal": ["eq", "str"],
    "blocks.Block": ["len", "add", "eq", "str"],
    "machines.Rule": ["eq", "str"],
    "machines.Machine": ["len", "getitem", "add", "eq", "str"],
    "orders.Order": ["and", "or", "invert", "le", "ge", "len", "eq", "str"],
    "bench.Bench": ["len"],
}


def module(name):
    return importlib.import_module("wakesafe." + name)


def found(path):
    """The class at a path such as blocks.Bit."""
    first, second = path.split(".")
    return getattr(module(first), second)


class InterfaceTest(unittest.TestCase):
    def test_package_file_is_empty_but_for_a_docstring(self):
        with open(importlib.import_module("wakesafe").__file__, encoding="utf-8") as file:
            tree = ast.parse(file.read())
        self.assertEqual(len(tree.body), 1)
        self.assertIsNotNone(ast.get_docstring(tree))

    def test_classes_stand_in_their_files(self):
        for name, classes in CLASSES.items():
            with open(module(name).__file__, encoding="utf-8") as file:
                tree = ast.parse(file.read())
            defined = [node.name for node in tree.body if isinstance(node, ast.ClassDef)]
            for one in classes:
                self.assertIn(one, defined, name)

    def test_functions(self):
        for name, functions in FUNCTIONS.items():
            for one, signature in functions.items():
                function = getattr(module(name), one)
                self.assertTrue(inspect.isfunction(function), one)
                self.assertEqual((function.__module__, str(inspect.signature(function))), ("wakesafe." + name, signature))

    def test_constructors(self):
        for path, signature in CONSTRUCTORS.items():
            self.assertEqual(str(inspect.signature(found(path))), signature, path)

    def test_methods(self):
        for path, methods in METHODS.items():
            for name, parameters in methods.items():
                self.assertTrue(inspect.isfunction(vars(found(path))[name]), (path, name))
                self.assertEqual(list(inspect.signature(vars(found(path))[name]).parameters)[1:], parameters, (path, name))

    def test_class_methods(self):
        for path, methods in CLASS_METHODS.items():
            for name, parameters in methods.items():
                self.assertIsInstance(vars(found(path))[name], classmethod, (path, name))
                self.assertEqual(list(inspect.signature(getattr(found(path), name)).parameters), parameters, (path, name))

    def test_operators(self):
        for path, names in OPERATORS.items():
            for name in names:
                self.assertIn("__" + name + "__", vars(found(path)), path)

    def test_properties(self):
        for path, names in PROPERTIES.items():
            for name in names:
                self.assertIsInstance(vars(found(path))[name], property, (path, name))
                self.assertIs(vars(found(path))[name].fset is not None, name in SETTERS.get(path, []), (path, name))

    def test_attributes_are_set_when_the_object_is_made(self):
        made = {type(thing).__name__: thing for thing in [*objects(), a_played(), Bench(BLOCK, GOOD), Desk()]}
        for name, attributes in ATTRIBUTES.items():
            for attribute in attributes:
                self.assertIn(attribute, vars(made[name]), name)


if __name__ == "__main__":
    unittest.main()
