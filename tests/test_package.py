"""Tests of what the interface and the rules of the language say of the files."""

import ast
import importlib
import inspect
import os
import unittest

import likeholes

FOLDER = os.path.dirname(likeholes.__file__)
ALLOWED_MODULES = ("heapq", "math", "itertools", "collections")

INTERFACE = {
    "inventories": {
        "inventory_error": ["value"],
        "list_slots": ["inventory"],
        "slot_kind": ["inventory", "slot"],
        "slot_surplus": ["inventory"],
    },
    "arrangements": {
        "arrangement_error": ["inventory", "value"],
        "slot_of": ["inventory", "arrangement", "name"],
        "ancestors_of": ["inventory", "arrangement", "name"],
        "descendants_of": ["inventory", "arrangement", "name"],
    },
}


def package_files():
    """Return the names and texts of the files of the package."""
    texts = {}
    for name in sorted(os.listdir(FOLDER)):
        if name != "__pycache__":
            with open(os.path.join(FOLDER, name), "rb") as file:
                texts[name] = file.read()
    return texts


class InterfaceTest(unittest.TestCase):

    def test_functions_are_defined_in_their_files(self):
        texts = package_files()
        for module, functions in INTERFACE.items():
            tree = ast.parse(texts[module + ".py"])
            defined = [node.name for node in tree.body if isinstance(node, ast.FunctionDef)]
            for name in functions:
                self.assertEqual(defined.count(name), 1, name)

    def test_parameters(self):
        for module, functions in INTERFACE.items():
            loaded = importlib.import_module("likeholes." + module)
            for name, parameters in functions.items():
                found = inspect.signature(getattr(loaded, name)).parameters
                self.assertEqual(list(found), parameters, name)
                for parameter in found.values():
                    self.assertIs(parameter.kind, inspect.Parameter.POSITIONAL_OR_KEYWORD)
                    self.assertIs(parameter.default, inspect.Parameter.empty)


class LanguageTest(unittest.TestCase):

    def test_the_package_holds_only_python_files(self):
        for name in package_files():
            self.assertTrue(name.endswith(".py"), name)

    def test_sizes_and_characters(self):
        for name, text in package_files().items():
            lines = text.split(b"\n")
            self.assertLessEqual(len(lines), 399, name)
            self.assertLessEqual(max(len(line) for line in lines), 120, name)
            self.assertLessEqual(set(text), set(range(32, 127)) | {10}, name)

    def test_functions_are_small(self):
        for name, text in package_files().items():
            for node in ast.walk(ast.parse(text)):
                if isinstance(node, ast.FunctionDef):
                    self.assertLess(node.end_lineno - node.lineno, 40, node.name)

    def test_imports_are_from_the_package_or_allowed(self):
        for name, text in package_files().items():
            for node in ast.walk(ast.parse(text)):
                self.assertNotIsInstance(node, ast.Import, name)
                if isinstance(node, ast.ImportFrom):
                    self.assertEqual(node.level, 0, name)
                    if node.module not in ALLOWED_MODULES:
                        self.assertTrue(node.module.startswith("likeholes."), name)


if __name__ == "__main__":
    unittest.main()
