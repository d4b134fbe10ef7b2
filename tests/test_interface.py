"""The interface of what has landed: names, arguments, where they are defined, and what is imported."""

import ast
import inspect
import unittest
from pathlib import Path

import farlamps
from farlamps import errors, lamps, lights

PACKAGE = Path(farlamps.__file__).parent

METHODS = {
    lamps.Lamp: {
        "__init__": ["self", "period", "beat"], "__eq__": ["self", "other"],
        "shines": ["self", "beat"], "next_shine": ["self", "begin"],
    },
    lights.Light: {
        "__init__": ["self", "lamps"], "__eq__": ["self", "other"], "lamps": ["self"], "wait": ["self"],
        "is_bright": ["self", "beat"], "shining": ["self", "beat"], "next_bright": ["self", "begin"],
        "next_dark": ["self", "begin"], "last_dark": ["self", "begin"],
    },
}

FUNCTIONS = {
    lamps: {"meet": ["one", "other"], "seen_from": ["lamp", "other"], "hides": ["one", "other"]},
    lights: {"check_ever": ["light", "begin", "paper"]},
}

CLASSES = {
    errors: ["LampError", "NoLamp", "NoLight", "NoBeat", "NoNumber", "NoPaper", "NoWindow", "NoSize", "TooMany"],
    lamps: ["Lamp"],
    lights: ["Light"],
}


def named(function):
    """The names of the parameters, each of which may be handed in by its place or by its name."""
    told = inspect.signature(function).parameters.values()
    return [one.name for one in told if one.kind is one.POSITIONAL_OR_KEYWORD and one.default is one.empty]


class Interface(unittest.TestCase):
    def test_methods_stand_in_the_class_itself_with_their_arguments(self):
        for owner, methods in METHODS.items():
            for name, wanted in methods.items():
                self.assertIn(name, vars(owner))
                self.assertEqual(named(vars(owner)[name]), wanted, name)
                self.assertEqual(len(inspect.signature(vars(owner)[name]).parameters), len(wanted), name)

    def test_functions_have_their_arguments(self):
        for module, functions in FUNCTIONS.items():
            for name, wanted in functions.items():
                self.assertEqual(named(getattr(module, name)), wanted, name)
                self.assertEqual(len(inspect.signature(getattr(module, name)).parameters), len(wanted), name)

    def test_each_is_defined_in_its_own_file(self):
        for module in (errors, lamps, lights):
            for name in list(FUNCTIONS.get(module, [])) + CLASSES[module]:
                self.assertEqual(getattr(module, name).__module__, module.__name__, name)

    def test_nothing_from_outside_is_imported_but_plain_arithmetic(self):
        for file in PACKAGE.rglob("*.py"):
            for node in ast.walk(ast.parse(file.read_text(encoding="utf-8"))):
                self.assertNotIsInstance(node, ast.Import, file.name)
                if isinstance(node, ast.ImportFrom):
                    self.assertIn(node.module.split(".")[0], ("farlamps", "math"), file.name)

    def test_no_file_is_opened_and_nothing_is_asked_or_printed(self):
        for file in PACKAGE.rglob("*.py"):
            for node in ast.walk(ast.parse(file.read_text(encoding="utf-8"))):
                if isinstance(node, ast.Name):
                    self.assertNotIn(node.id, ("open", "input", "print", "hash", "id"), file.name)


if __name__ == "__main__":
    unittest.main()
