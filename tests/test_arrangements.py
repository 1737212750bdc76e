"""Tests of likeholes/arrangements.py: points 10 to 14."""

import copy
import itertools
import unittest

from likeholes.arrangements import ancestors_of, arrangement_error, descendants_of, slot_of
from likeholes.errors import InvalidArrangement, UnknownItem
from likeholes.inventories import list_slots
from tests.references import (
    arrangements, orders, reference_ancestors, reference_arrangement_error, reference_descendants, reference_parents,
)
from tests.samples import MIXED, SMALL
from tests.values import HUGE, INV, chain_inventory, is_same, nested, values_of_every_sort

FUNCTIONS = [slot_of, ancestors_of, descendants_of]


class ArrangementErrorTest(unittest.TestCase):

    def check(self, inventory, value, expected):
        self.assertTrue(is_same(arrangement_error(inventory, value), expected), expected)

    def test_example(self):
        self.assertEqual(arrangement_error(INV, ["c", "a", "b"]), ("cycle", "a"))

    def test_ordinary_arrangements(self):
        self.check(INV, ["a", "b", "c"], None)
        self.check(INV, ["b", "c", "a"], None)
        self.check(MIXED, ["a", "c", "d", "b", "e"], None)
        self.check(MIXED, ["b", "c", "d", "e", "a"], None)
        self.assertIsNone(arrangement_error(inventory=INV, value=["a", "b", "c"]))

    def test_length_and_form(self):
        for value in (
            [], ["a"], ["a", "b"], ["a", "b", "c", "a"], ("a", "b", "c"), "abc", None, True, 3, HUGE,
            {}, {"a": 1, "b": 2, "c": 3}, [["a", "b", "c"]],
        ):
            self.check(INV, value, ("arrangement",))

    def test_entries(self):
        # An unknown name, a wrong kind, a name again, and the least of several indices.
        self.check(INV, ["a", "b", "d"], ("slot", 2))
        self.check(INV, ["", "b", "c"], ("slot", 0))
        self.check(INV, ["k", "b", "c"], ("slot", 0))
        self.check(MIXED, ["c", "a", "d", "b", "e"], ("slot", 0))
        self.check(MIXED, ["a", "b", "d", "c", "e"], ("slot", 1))
        self.check(MIXED, ["a", "c", "d", "b", "d"], ("slot", 4))
        self.check(INV, ["a", "a", "c"], ("slot", 1))
        self.check(INV, ["a", "b", "a"], ("slot", 2))
        self.check(INV, ["a", "b", "b"], ("slot", 2))
        self.check(INV, ["a", "a", "d"], ("slot", 1))
        self.check(INV, ["a", None, "a"], ("slot", 1))

    def test_least_index(self):
        inventory = chain_inventory(24)
        good = [item[0] for item in inventory[1]]
        for k in range(24):
            self.check(inventory, good[:k] + ["A"] * (24 - k), ("slot", k))
            if k > 0:
                self.check(inventory, good[:k] + good[:1] + good[k + 1:], ("slot", k))

    def test_missing_items(self):
        inventory = (("k",), [("a", "k", ()), ("b", "k", ()), ("c", "k", ())])
        self.check(inventory, ["a"], ("missing", "b"))
        self.check(inventory, ["b"], ("missing", "a"))
        self.check(inventory, ["c"], ("missing", "a"))
        self.check((("k",), [("a", "k", ()), ("b", "m", ())]), ["a"], ("missing", "b"))

    def test_surplus_of_slots(self):
        inventory = (("k", "k", "m"), [("a", "k", ())])
        self.check(inventory, ["a"], ("arrangement",))
        self.check(inventory, ["a", "a", "a"], ("slot", 1))

    def test_items_that_contain_each_other(self):
        self.check(INV, ["c", "a", "b"], ("cycle", "a"))
        self.check(INV, ["c", "b", "a"], ("cycle", "a"))
        inventory = (("k",), [(name, "k", ("k",)) for name in "abcd"] + [("e", "k", ())])
        self.check(inventory, ["a", "e", "c", "d", "b"], ("cycle", "b"))
        self.check(inventory, ["a", "b", "c", "d", "e"], None)
        self.check(inventory, ["e", "b", "c", "d", "a"], ("cycle", "a"))
        self.check(inventory, ["e", "b", "a", "d", "c"], ("cycle", "a"))
        self.check(inventory, ["a", "c", "b", "e", "d"], ("cycle", "b"))

    def test_items_below_a_cycle(self):
        # d contains itself; a is only below it, and b is not.
        inventory = (("k",), [("a", "k", ()), ("b", "k", ("k",)), ("c", "k", ()), ("d", "k", ("k", "k"))])
        self.check(inventory, ["b", "c", "a", "d"], ("cycle", "a"))
        self.check(inventory, ["b", "a", "c", "d"], ("cycle", "c"))
        self.check(inventory, ["b", "a", "d", "c"], ("cycle", "c"))
        self.check(inventory, ["a", "c", "b", "d"], ("cycle", "b"))

    def test_order_of_reasons(self):
        short = (("k",), [("a", "k", ("k",)), ("b", "k", ()), ("c", "k", ())])
        self.check(short, ["a", None, "b"], ("arrangement",))
        self.check(short, ["d", "d"], ("slot", 0))
        self.check(short, ["c", "c"], ("slot", 1))
        # Two items are missing or in a cycle: a missing one comes first.
        self.check(short, ["b", "a"], ("missing", "c"))
        self.check(short, ["c", "a"], ("missing", "b"))

    def test_deep_cycle(self):
        inventory = chain_inventory(24)
        names = [item[0] for item in inventory[1]]
        self.check(inventory, names, None)
        self.check(inventory, [names[-1]] + names[1:-1] + [names[0]], ("cycle", "a"))
        self.check(inventory, names[:12] + names[23:] + names[13:23] + names[12:13], ("cycle", names[12]))

    def test_all_lists_of_names(self):
        for inventory in SMALL:
            for order in orders(inventory):
                for value in (order, order[:-1], order + order[:1], order[:-1] + order[:1]):
                    self.check(inventory, value, reference_arrangement_error(inventory, value))

    def test_all_lists_with_repeated_and_unknown_names(self):
        for inventory in SMALL[:7]:
            entries = [item[0] for item in inventory[1]] + ["", "z", None, ["a"]]
            for value in itertools.product(entries, repeat=len(list_slots(inventory))):
                self.check(inventory, list(value), reference_arrangement_error(inventory, list(value)))

    def test_values_of_every_sort_in_every_place(self):
        for value in values_of_every_sort():
            self.check(INV, value, reference_arrangement_error(INV, value))
            for inventory, good in ((INV, ["a", "b", "c"]), (MIXED, ["a", "c", "d", "b", "e"])):
                for k in range(len(good)):
                    changed = good[:k] + [value] + good[k + 1:]
                    self.check(inventory, changed, reference_arrangement_error(inventory, changed))
                    self.check(inventory, tuple(changed), ("arrangement",))

    def test_arguments_do_not_change(self):
        inventory = copy.deepcopy(INV)
        for value in (["a", "b", "c"], ["c", "a", "b"], ["a", ["b"], "c"], [["a"]], ["a", "a", "a"]):
            before = copy.deepcopy(value)
            arrangement_error(inventory, value)
            self.assertTrue(is_same(value, before))
        self.assertTrue(is_same(inventory, INV))


class CheckedArgumentsTest(unittest.TestCase):

    def check_raises(self, reason, inventory, value, name):
        for function in FUNCTIONS:
            with self.assertRaises(InvalidArrangement) as raised:
                function(inventory, value, name)
            self.assertIs(type(raised.exception), InvalidArrangement)
            self.assertTrue(is_same(raised.exception.reason, reason))

    def check_unknown(self, inventory, arrangement, name):
        for function in FUNCTIONS:
            with self.assertRaises(UnknownItem) as raised:
                function(inventory, arrangement, name)
            self.assertIs(type(raised.exception), UnknownItem)

    def test_invalid_arrangements(self):
        short = (("k",), [("a", "k", ("k",)), ("b", "k", ()), ("c", "k", ())])
        for name in ("a", "z", None, True, HUGE, ["a"], nested(False, 100)):
            self.check_raises(("arrangement",), INV, ("a", "b", "c"), name)
            self.check_raises(("slot", 1), INV, ["a", "a", "c"], name)
            self.check_raises(("missing", "c"), short, ["a", "b"], name)
            self.check_raises(("cycle", "a"), INV, ["c", "a", "b"], name)

    def test_invalid_arrangements_with_values_of_every_sort(self):
        for value in values_of_every_sort():
            self.check_raises(reference_arrangement_error(INV, value), INV, value, value)
            if value != "a":
                self.check_raises(("slot", 0), INV, [value, "b", "c"], value)

    def test_unknown_items(self):
        for value in values_of_every_sort():
            if value != "a":
                self.check_unknown(INV, ["a", "b", "c"], value)
        for name in ("", "d", "A", "ab", "k", 0, ("", 0), ("a",), ["a"], ["a", "b", "c"], None, True):
            self.check_unknown(INV, ["a", "b", "c"], name)

    def test_arguments_by_keyword(self):
        keywords = {"inventory": INV, "arrangement": ["a", "b", "c"], "name": "b"}
        self.assertEqual(slot_of(**keywords), ("a", 0))
        self.assertEqual(ancestors_of(**keywords), ["a"])
        self.assertEqual(descendants_of(**keywords), ["c"])

    def test_arguments_do_not_change(self):
        for function in FUNCTIONS:
            inventory, arrangement = copy.deepcopy(MIXED), ["a", "c", "d", "b", "e"]
            for name in "abcde":
                function(inventory, arrangement, name)
            self.assertTrue(is_same(inventory, MIXED))
            self.assertEqual(arrangement, ["a", "c", "d", "b", "e"])
            wrong, unknown = ["c", ["a"], "b"], ["a", [0]]
            self.assertRaises(InvalidArrangement, function, INV, wrong, unknown)
            self.assertRaises(UnknownItem, function, INV, ["a", "b", "c"], unknown)
            self.assertTrue(is_same([wrong, unknown], [["c", ["a"], "b"], ["a", [0]]]))

    def test_results_are_new(self):
        for function in (ancestors_of, descendants_of):
            for name in "abcde":
                arrangement = ["b", "c", "d", "e", "a"]
                first = function(MIXED, arrangement, name)
                second = function(MIXED, arrangement, name)
                self.assertIsNot(first, second)
                first.append("z")
                self.assertEqual(function(MIXED, arrangement, name), second)


class SlotOfTest(unittest.TestCase):

    def test_example(self):
        self.assertEqual(slot_of(INV, ["a", "b", "c"], "c"), ("b", 0))

    def test_root_slots_and_slots_of_items(self):
        arrangement = ["a", "c", "d", "b", "e"]
        expected = {"a": ("", 0), "c": ("", 1), "d": ("a", 0), "b": ("a", 1), "e": ("c", 0)}
        for name, slot in expected.items():
            self.assertTrue(is_same(slot_of(MIXED, arrangement, name), slot))

    def test_all_small_arrangements(self):
        for inventory in SMALL:
            for arrangement in arrangements(inventory):
                for slot, name in zip(list_slots(inventory), arrangement):
                    self.assertTrue(is_same(slot_of(inventory, arrangement, name), slot))


class AncestorsOfTest(unittest.TestCase):

    def test_example(self):
        self.assertEqual(ancestors_of(INV, ["a", "b", "c"], "c"), ["a", "b"])

    def test_root_slots_have_none(self):
        self.assertTrue(is_same(ancestors_of(INV, ["a", "b", "c"], "a"), []))
        self.assertEqual(ancestors_of(MIXED, ["b", "c", "d", "e", "a"], "b"), [])
        self.assertEqual(ancestors_of(MIXED, ["b", "c", "d", "e", "a"], "c"), [])

    def test_order_is_by_depth_and_not_by_name(self):
        self.assertEqual(ancestors_of(INV, ["b", "c", "a"], "c"), ["b", "a"])
        self.assertEqual(ancestors_of(MIXED, ["b", "c", "d", "e", "a"], "e"), ["c", "a"])

    def test_deep_nesting(self):
        inventory = chain_inventory(24)
        names = [item[0] for item in inventory[1]]
        for k in range(24):
            self.assertEqual(ancestors_of(inventory, names, names[k]), names[:k])

    def test_all_small_arrangements(self):
        for inventory in SMALL:
            for arrangement in arrangements(inventory):
                parents = reference_parents(inventory, arrangement)
                for name in arrangement:
                    expected = reference_ancestors(parents, name)
                    self.assertTrue(is_same(ancestors_of(inventory, arrangement, name), expected))


class DescendantsOfTest(unittest.TestCase):

    wide = (
        ("k",),
        [("a", "k", ("k",) * 4), ("b", "k", ("k",) * 4), ("c", "k", ("k", "k"))]
        + [(name, "k", ()) for name in ("d", "e", "f", "g", "h", "i", "j", "l")],
    )

    def test_example(self):
        self.assertEqual(descendants_of(INV, ["a", "b", "c"], "a"), ["b", "c"])

    def test_items_without_descendants(self):
        self.assertTrue(is_same(descendants_of(INV, ["a", "b", "c"], "c"), []))
        self.assertEqual(descendants_of(MIXED, ["b", "c", "d", "e", "a"], "b"), [])

    def test_depth_first_order(self):
        arrangement = ["c", "d", "e", "f", "g", "a", "h", "i", "j", "l", "b"]
        self.assertIsNone(arrangement_error(self.wide, arrangement))
        below_a, below_b = ["d", "e", "f", "g"], []
        self.assertEqual(descendants_of(self.wide, arrangement, "a"), below_a)
        below_b = ["a"] + below_a + ["h", "i", "j"]
        self.assertEqual(descendants_of(self.wide, arrangement, "b"), below_b)
        self.assertEqual(descendants_of(self.wide, arrangement, "c"), ["l", "b"] + below_b)
        arrangement = ["a", "l", "c", "b", "j", "i", "h", "g", "f", "e", "d"]
        below_c, below_b = ["e", "d"], ["i", "h", "g", "f"]
        self.assertEqual(descendants_of(self.wide, arrangement, "a"), ["l", "c"] + below_c + ["b"] + below_b + ["j"])

    def test_deep_nesting(self):
        inventory = chain_inventory(24)
        names = [item[0] for item in inventory[1]]
        for k in range(24):
            self.assertEqual(descendants_of(inventory, names, names[k]), names[k + 1:])

    def test_all_small_arrangements(self):
        for inventory in SMALL:
            for arrangement in arrangements(inventory):
                for name in arrangement:
                    expected = reference_descendants(inventory, arrangement, name)
                    self.assertTrue(is_same(descendants_of(inventory, arrangement, name), expected))


if __name__ == "__main__":
    unittest.main()
