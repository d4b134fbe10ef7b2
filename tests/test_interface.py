"""The interface: names, arguments, where they are defined, and what is imported."""

import ast
import inspect
import unittest
from pathlib import Path

import farlamps
from farlamps import counts, errors, idle, lamps, led, lights, made, moved, parting, stretches

PACKAGE = Path(farlamps.__file__).parent

METHODS = {
    lamps.Lamp: {
        "__init__": ["self", "period", "beat"], "__eq__": ["self", "other"],
        "shines": ["self", "beat"], "next_shine": ["self", "begin"],
    },
    lights.Light: {
        "__init__": ["self", "lamps"], "__eq__": ["self", "other"], "lamps": ["self"], "wait": ["self"],
        "is_bright": ["self", "beat"], "shining": ["self", "beat"], "next_bright": ["self", "begin"],
        "next_dark": ["self", "begin"], "last_dark": ["self", "begin"],
    },
}

FUNCTIONS = {
    lamps: {"meet": ["one", "other"], "seen_from": ["lamp", "other"], "hides": ["one", "other"]},
    lights: {"check_ever": ["light", "begin", "paper"]},
    idle: {
        "idle": ["light"], "needed": ["light"], "may_go": ["light", "numbers"],
        "check_go": ["light", "numbers", "papers"], "least_kept": ["light"],
    },
    parting: {
        "within": ["one", "other", "begin=0"], "parted": ["one", "other", "begin=0"],
        "parted_back": ["one", "other", "begin=0"], "check_within": ["one", "other", "papers"],
    },
    counts: {
        "dark_between": ["light", "begin", "end"], "by_many": ["light", "begin", "end"], "share": ["light"],
        "nth_dark": ["light", "number", "begin=0"],
    },
    stretches: {
        "stretch_at": ["light", "beat"], "longest_bright": ["light"], "tree": ["light", "long"],
        "check_longest": ["light", "long", "paper"],
    },
    made: {
        "set_for": ["periods"], "check_none": ["periods", "tree"], "more_for": ["light", "menu", "most"],
        "check_more": ["light", "menu", "most", "tree"],
    },
    led: {
        "fits": ["window", "most", "longest"], "clash": ["window", "most", "longest"],
        "sure": ["window", "most", "longest", "beat"], "watch_on": ["window", "most", "longest"],
    },
    moved: {
        "moved": ["light", "by"], "stretched": ["light", "times"], "thinned": ["light", "lamp"],
        "without": ["light", "numbers"], "joined": ["one", "other"], "both": ["one", "other"],
    },
}

CLASSES = {
    errors: ["LampError", "NoLamp", "NoLight", "NoBeat", "NoNumber", "NoPaper", "NoWindow", "NoSize", "TooMany"],
    lamps: ["Lamp"],
    lights: ["Light"],
}


def told_as(parameter):
    """A parameter as the tables tell it: its name, and "=" and its default where it stands behind a star."""
    if parameter.kind is parameter.POSITIONAL_OR_KEYWORD and parameter.default is parameter.empty:
        return parameter.name
    if parameter.kind is parameter.KEYWORD_ONLY:
        return f"{parameter.name}={parameter.default!r}"
    return f"{parameter} ({parameter.kind})"


def parameters(function):
    return [told_as(parameter) for parameter in inspect.signature(function).parameters.values()]


class Interface(unittest.TestCase):
    def test_methods_stand_in_the_class_itself_with_their_arguments(self):
        for owner, methods in METHODS.items():
            for name, wanted in methods.items():
                self.assertIn(name, vars(owner))
                self.assertEqual(parameters(vars(owner)[name]), wanted, name)

    def test_functions_have_their_arguments(self):
        for module, functions in FUNCTIONS.items():
            for name, wanted in functions.items():
                self.assertEqual(parameters(getattr(module, name)), wanted, name)

    def test_each_is_defined_in_its_own_file(self):
        for module in (errors, lamps, lights, idle, parting, counts, stretches, made, led, moved):
            for name in list(FUNCTIONS.get(module, [])) + CLASSES.get(module, []):
                self.assertEqual(getattr(module, name).__module__, module.__name__, name)

    def test_nothing_from_outside_is_imported_but_plain_arithmetic(self):
        for file in PACKAGE.rglob("*.py"):
            for node in ast.walk(ast.parse(file.read_text(encoding="utf-8"))):
                self.assertNotIsInstance(node, ast.Import, file.name)
                if isinstance(node, ast.ImportFrom):
                    self.assertIn(node.module.split(".")[0], ("farlamps", "math", "itertools"), file.name)

    def test_no_file_is_opened_and_nothing_is_asked_or_printed(self):
        for file in PACKAGE.rglob("*.py"):
            for node in ast.walk(ast.parse(file.read_text(encoding="utf-8"))):
                if isinstance(node, ast.Name):
                    self.assertNotIn(node.id, ("open", "input", "print", "hash", "id"), file.name)


if __name__ == "__main__":
    unittest.main()
