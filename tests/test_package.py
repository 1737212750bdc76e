"""Tests of what the interface and the rules of the language say of the files."""

import ast
import builtins
import doctest
import importlib
import inspect
import os
import unittest

import likeholes
from likeholes import moves
from likeholes.forests import Forest

FOLDER = os.path.dirname(likeholes.__file__)
ALLOWED_MODULES = ("heapq", "math", "itertools", "collections")
ALLOWED_BUILTINS = (
    "len range enumerate zip min max sum abs sorted reversed int str bool bytes list tuple dict set isinstance ord "
    "repr any all divmod ValueError"
).split()
ALLOWED_METHODS = (
    "append clear copy count endswith extend find get index insert isalnum isalpha isdigit islower isspace isupper "
    "items join keys ljust lower lstrip partition pop remove replace reverse rfind rjust rpartition rsplit rstrip "
    "setdefault split splitlines startswith strip update upper values zfill bit_length add discard"
).split()
BARRED_NAMES = (
    "register mro elements open input law version_info with_traceback add_note attrgetter breakpoint builtins compile "
    "copyright credits delattr dir eval exec exit gc globals help id importlib license locals methodcaller os quit "
    "setattr super type vars sys typing enum"
).split()
BARRED_NODES = (ast.AsyncFunctionDef, ast.AsyncFor, ast.AsyncWith, ast.Await, ast.Global, ast.Div, ast.MatMult)

# A star marks a parameter that is passed by keyword only and is () by default.
INTERFACE = {
    "inventories": {
        "inventory_error": ["value"],
        "list_slots": ["inventory"],
        "slot_kind": ["inventory", "slot"],
        "slot_surplus": ["inventory"],
    },
    "arrangements": {
        "arrangement_error": ["inventory", "value"],
        "slot_of": ["inventory", "arrangement", "name"],
        "ancestors_of": ["inventory", "arrangement", "name"],
        "descendants_of": ["inventory", "arrangement", "name"],
    },
    "moves": {
        "move_error": ["inventory", "arrangement", "value"],
        "moves_error": ["inventory", "arrangement", "value"],
        "apply_moves": ["inventory", "arrangement", "moves"],
        "reverse_moves": ["inventory", "arrangement", "moves"],
        "has_even_swaps": ["inventory", "first", "second"],
        "first_move": ["inventory", "arrangement", "*pinned"],
    },
    "paths": {
        "find_path": ["inventory", "first", "second"],
        "check_path": ["inventory", "first", "second", "value", "*pinned"],
    },
    "placements": {
        "reachable_kinds": ["inventory", "*required"],
        "find_arrangement": ["inventory", "*required"],
        "check_answer": ["inventory", "value", "*required"],
    },
    "counting": {
        "count_arrangements": ["inventory", "*required"],
        "count_up_to_twins": ["inventory"],
        "placement_share": ["inventory", "slot", "name"],
        "possible_items": ["inventory", "slot"],
    },
    "ranking": {
        "arrangement_at": ["inventory", "index", "*required"],
        "index_of": ["inventory", "arrangement", "*required"],
    },
    "twins": {
        "are_equivalent": ["inventory", "first", "second"],
        "splits_evenly": ["inventory"],
    },
}
FOREST = {
    "__init__": ["self", "inventory", "arrangement", "*pinned"],
    "__eq__": ["self", "other"],
    "__len__": ["self"],
    "current": ["self"],
    "pins": ["self"],
    "history": ["self"],
    "apply": ["self", "move"],
    "undo": ["self"],
    "pin": ["self", "slot"],
    "unpin": ["self", "slot"],
    "go_to": ["self", "target"],
    "next_move": ["self"],
}


def package_files():
    """Return the names and texts of the files of the package."""
    texts = {}
    for name in sorted(os.listdir(FOLDER)):
        if name != "__pycache__":
            with open(os.path.join(FOLDER, name), "rb") as file:
                texts[name] = file.read()
    return texts


def stored_names(tree):
    """Return the names that are assigned anywhere in a file."""
    return {node.id for node in ast.walk(tree) if isinstance(node, ast.Name) and isinstance(node.ctx, ast.Store)}


class InterfaceTest(unittest.TestCase):

    def test_functions_are_defined_in_their_files(self):
        texts = package_files()
        for module, functions in INTERFACE.items():
            tree = ast.parse(texts[module + ".py"])
            defined = [node.name for node in tree.body if isinstance(node, ast.FunctionDef)]
            for name in functions:
                self.assertEqual(defined.count(name), 1, name)

    def check_parameters(self, function, parameters):
        found = inspect.signature(function).parameters
        self.assertEqual(list(found), [parameter.lstrip("*") for parameter in parameters], function)
        for parameter, told in zip(found.values(), parameters):
            if told.startswith("*"):
                self.assertIs(parameter.kind, inspect.Parameter.KEYWORD_ONLY)
                self.assertEqual(parameter.default, ())
            else:
                self.assertIs(parameter.kind, inspect.Parameter.POSITIONAL_OR_KEYWORD)
                self.assertIs(parameter.default, inspect.Parameter.empty)

    def test_parameters(self):
        for module, functions in INTERFACE.items():
            loaded = importlib.import_module("likeholes." + module)
            for name, parameters in functions.items():
                self.check_parameters(getattr(loaded, name), parameters)

    def test_methods_are_defined_in_the_class_itself(self):
        tree = ast.parse(package_files()["forests.py"])
        classes = [node for node in tree.body if isinstance(node, ast.ClassDef)]
        self.assertEqual([node.name for node in classes], ["Forest"])
        defined = [node.name for node in classes[0].body if isinstance(node, ast.FunctionDef)]
        self.assertEqual([name for name in defined if name.startswith("__") or not name.startswith("_")], list(FOREST))
        for name, parameters in FOREST.items():
            self.check_parameters(vars(Forest)[name], parameters)
        self.assertEqual(Forest.__bases__, (object,))

    def test_limit_of_move_lists(self):
        self.assertIs(type(moves.MAX_MOVES), int)
        self.assertEqual(moves.MAX_MOVES, 500)


class ReadmeTest(unittest.TestCase):

    def test_examples(self):
        failed, tried = doctest.testfile(os.path.join(os.path.dirname(FOLDER), "README.md"), module_relative=False)
        self.assertEqual(failed, 0)
        self.assertGreater(tried, 20)


class LanguageTest(unittest.TestCase):

    def test_the_package_holds_only_python_files(self):
        for name in package_files():
            self.assertTrue(name.endswith(".py"), name)

    def test_sizes_and_characters(self):
        for name, text in package_files().items():
            lines = text.split(b"\n")
            self.assertLessEqual(len(lines), 399, name)
            self.assertLessEqual(max(len(line) for line in lines), 120, name)
            self.assertLessEqual(set(text), set(range(32, 127)) | {10}, name)

    def test_functions_are_small(self):
        for name, text in package_files().items():
            for node in ast.walk(ast.parse(text)):
                if isinstance(node, ast.FunctionDef):
                    self.assertLess(node.end_lineno - node.lineno, 40, node.name)

    def test_imports_are_from_the_package_or_allowed(self):
        for name, text in package_files().items():
            for node in ast.walk(ast.parse(text)):
                self.assertNotIsInstance(node, ast.Import, name)
                if isinstance(node, ast.ImportFrom):
                    self.assertEqual(node.level, 0, name)
                    if node.module not in ALLOWED_MODULES:
                        self.assertTrue(node.module.startswith("likeholes."), name)

    def trees(self):
        return [(name, ast.parse(text)) for name, text in package_files().items()]

    def test_builtins_and_methods(self):
        for name, tree in self.trees():
            bound = {node.arg for node in ast.walk(tree) if isinstance(node, ast.arg)}
            bound |= {node.name for node in ast.walk(tree) if isinstance(node, (ast.FunctionDef, ast.ClassDef))}
            bound |= {entry.name for node in ast.walk(tree) if isinstance(node, ast.ImportFrom) for entry in node.names}
            bound |= stored_names(tree)
            own_methods = {
                method.name for node in ast.walk(tree) if isinstance(node, ast.ClassDef)
                for method in node.body if isinstance(method, ast.FunctionDef)
            }
            self.assertFalse(bound & set(dir(builtins)), name)
            self.assertFalse(bound & set(BARRED_NAMES), name)
            for node in ast.walk(tree):
                if isinstance(node, ast.Name):
                    self.assertIn(node.id, bound | set(ALLOWED_BUILTINS), name)
                if isinstance(node, ast.Call) and isinstance(node.func, ast.Attribute):
                    self.assertIn(node.func.attr, own_methods | set(ALLOWED_METHODS), name)

    def test_names_of_imports_and_classes_are_not_used_again(self):
        for name, tree in self.trees():
            taken = [entry.name for node in tree.body if isinstance(node, ast.ImportFrom) for entry in node.names]
            taken += [node.name for node in tree.body if isinstance(node, (ast.FunctionDef, ast.ClassDef))]
            self.assertEqual(len(taken), len(set(taken)), name)
            self.assertFalse(stored_names(tree) & set(taken), name)
            self.assertFalse({node.arg for node in ast.walk(tree) if isinstance(node, ast.arg)} & set(taken), name)

    def test_parts_of_the_language(self):
        for name, tree in self.trees():
            for node in ast.walk(tree):
                self.assertNotIsInstance(node, BARRED_NODES, name)
                # Where a class has __eq__, functions like any and sum take lists.
                self.assertNotIsInstance(node, ast.GeneratorExp, name)
                if isinstance(node, ast.Compare) and any(isinstance(sign, (ast.Is, ast.IsNot)) for sign in node.ops):
                    self.assertIsInstance(node.comparators[0], ast.Constant, name)
                    self.assertIn(node.comparators[0].value, (None, True, False), name)
                if isinstance(node, ast.Constant) and isinstance(node.value, str):
                    self.assertNotIn("%", node.value, name)

    def test_files_do_not_import_from_each_other(self):
        needed = {
            name[:-3]: {node.module.partition(".")[2] for node in ast.walk(tree) if isinstance(node, ast.ImportFrom)}
            for name, tree in self.trees()
        }
        while needed:
            ready = [name for name in needed if not needed[name] & set(needed)]
            self.assertTrue(ready, needed)
            needed = {name: needed[name] for name in needed if name not in ready}


if __name__ == "__main__":
    unittest.main()
