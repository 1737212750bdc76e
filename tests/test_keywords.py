"""Tests of the interface: every function and method answers the same with keywords in any order."""

import importlib
import itertools
import unittest

from likeholes.errors import LikeholesError
from likeholes.forests import Forest
from tests.samples import MIXED
from tests.test_package import FOREST, INTERFACE
from tests.values import INV, is_same

FIRST, SECOND = ["a", "c", "d", "b", "e"], ["e", "d", "c", "b", "a"]
MOVE, PINS, REQUIRED = ("swap", "b", "e"), [("", 1), ("a", 0)], [(("", 0), "a"), (("a", 0), "c")]
# Values for each parameter, the last of which are wrong.
VALUES = {
    "inventory": [MIXED, INV, None],
    "arrangement": [FIRST, SECOND, ["a", "b", "c"]],
    "first": [FIRST, SECOND, []],
    "second": [SECOND, FIRST, None],
    "value": [MIXED, FIRST, MOVE, [MOVE], ("moves", [MOVE]), ("arrangement", FIRST), None],
    "moves": [[MOVE], [MOVE, MOVE], [], [None]],
    "slot": [("", 0), ("a", 1), ("", 1), ("b", 0)],
    "name": ["a", "b", "c", "zz"],
    "index": [0, 1, 2, -1],
    "pinned": [(), PINS, tuple(PINS), [("zz", 0)]],
    "required": [(), REQUIRED, tuple(REQUIRED), REQUIRED[::-1]],
    "move": [MOVE, ("swap", "a", "e"), ("swap", "a", "b"), None],
    "target": [SECOND, FIRST, ["b"]],
}


def answer_of(function, arguments, keywords):
    """Return what the call returns, or what it raises."""
    try:
        return ["returned", function(*arguments, **keywords)]
    except LikeholesError as error:
        return ["raised", type(error).__name__, vars(error)]


class KeywordsTest(unittest.TestCase):

    def check(self, function_for_call, parameters):
        """Check a function, which is made anew for each call, with all values in all orders of the keywords."""
        names = [name.lstrip("*") for name in parameters]
        words = set()
        for values in itertools.product(*[VALUES[name] for name in names]):
            given = dict(zip(names, values))
            positional = [given[name] for name in parameters if not name.startswith("*")]
            options = {name[1:]: given[name[1:]] for name in parameters if name.startswith("*")}
            expected = answer_of(function_for_call(), positional, options)
            words.add(expected[0])
            for order in itertools.permutations(names):
                keywords = {name: given[name] for name in order}
                found = answer_of(function_for_call(), [], keywords)
                self.assertTrue(is_same(found, expected), (keywords, found, expected))
            if not any(options.values()):
                self.assertTrue(is_same(answer_of(function_for_call(), positional, {}), expected))
        self.assertIn("returned", words)

    def test_functions(self):
        for module, functions in INTERFACE.items():
            loaded = importlib.import_module("likeholes." + module)
            for name, parameters in functions.items():
                with self.subTest(name):
                    self.check(lambda: getattr(loaded, name), parameters)

    def test_creation_of_a_forest(self):
        def created(*arguments, **keywords):
            forest = Forest(*arguments, **keywords)
            return forest.current(), forest.pins(), forest.history(), forest.next_move()
        self.check(lambda: created, FOREST["__init__"][1:])

    def test_methods_of_a_forest(self):
        for name, parameters in FOREST.items():
            def called(*arguments, **keywords):
                forest = Forest(MIXED, FIRST, pinned=[("", 1)])
                forest.apply(("swap", "b", "e"))
                result = getattr(forest, name)(*arguments, **keywords)
                return result, forest.current(), forest.pins(), forest.history()
            if not name.startswith("__"):
                with self.subTest(name):
                    self.check(lambda: called, parameters[1:])

    def test_too_many_arguments_by_position(self):
        for module, functions in INTERFACE.items():
            loaded = importlib.import_module("likeholes." + module)
            for name, parameters in functions.items():
                values = [VALUES[parameter.lstrip("*")][0] for parameter in parameters]
                if parameters[-1].startswith("*"):
                    self.assertRaises(TypeError, getattr(loaded, name), *values)


if __name__ == "__main__":
    unittest.main()
