"""Tests of likeholes/inventories.py: points 4 to 9."""

import copy
import re
import unittest

from likeholes.arrangements import ancestors_of, arrangement_error, descendants_of, slot_of
from likeholes.errors import InvalidInventory, UnknownSlot
from likeholes.inventories import inventory_error, list_slots, slot_kind, slot_surplus
from tests.values import HUGE, INV, chain_inventory, is_same, nested, values_of_every_sort

ROOTS = ("k", "m")
ITEMS = [("a", "k", ("k", "n")), ("b", "m", ()), ("cd", "n", ("m",))]

BAD_WORDS = ["", " ", "A", "aB", "Ab", "a1", "1", "a b", " a", "a ", "a\n", "a-b", "`", "{", "abcdefghi"]
GOOD_WORDS = ["a", "z", "az", "abcdefgh", "zzzzzzzz"]


def names(count):
    """Return so many names in ascending order."""
    return ["n" + chr(ord("a") + k) for k in range(count)]


def is_reference_word(value):
    return isinstance(value, str) and re.fullmatch("[a-z]{1,8}", value) is not None


def is_reference_tuple(value, least, most):
    return type(value) is tuple and len(value) in range(least, most + 1) and all(map(is_reference_word, value))


def reference_error(value):
    """Return what point 5 says, by its words."""
    if type(value) is not tuple or len(value) != 2:
        return ("inventory",)
    if not is_reference_tuple(value[0], 1, 4):
        return ("roots",)
    if type(value[1]) is not list or len(value[1]) not in range(1, 25):
        return ("items",)
    for k, item in enumerate(value[1]):
        good = (
            type(item) is tuple and len(item) == 3 and is_reference_word(item[0])
            and is_reference_word(item[1]) and is_reference_tuple(item[2], 0, 4)
        )
        if not good or (k > 0 and not item[0] > value[1][k - 1][0]):
            return ("item", k)
    kinds = set(value[0])
    for item in value[1]:
        kinds = kinds | {item[1]} | set(item[2])
    return ("kinds",) if len(kinds) > 6 else None


def inventories_with(value):
    """Return inventories with the value in place of each of their parts."""
    found = [value, (value, ITEMS), (ROOTS, value), (ROOTS, ITEMS, value)]
    for k in range(len(ROOTS)):
        found.append((ROOTS[:k] + (value,) + ROOTS[k + 1:], ITEMS))
    for k, item in enumerate(ITEMS):
        others = [item[:i] + (value,) + item[i + 1:] for i in range(3)] + [item + (value,), value]
        for i in range(len(item[2])):
            others.append(item[:2] + (item[2][:i] + (value,) + item[2][i + 1:],))
        for other in others:
            found.append((ROOTS, ITEMS[:k] + [other] + ITEMS[k + 1:]))
    return found


class InventoryErrorTest(unittest.TestCase):

    def check(self, value, expected):
        self.assertTrue(is_same(inventory_error(value), expected), expected)

    def check_word_as_everything(self, word, is_good):
        self.check(((word,), [("a", "k", ())]), None if is_good else ("roots",))
        expected = None if is_good else ("item", 0)
        self.check((("k",), [(word, "k", ())]), expected)
        self.check((("k",), [("a", word, ())]), expected)
        self.check((("k",), [("a", "k", (word,))]), expected)
        self.check((("k",), [("a", "k", ("k", "k", "k", word))]), expected)

    def test_example(self):
        self.assertEqual(inventory_error((("k",), [("b", "k", ()), ("a", "k", ())])), ("item", 1))

    def test_ordinary_inventories(self):
        self.check(INV, None)
        self.check((ROOTS, ITEMS), None)
        self.check(chain_inventory(24), None)
        # A surplus of slots or items does not matter here.
        self.check((("x",), [("a", "k", ("m",))]), None)

    def test_argument_by_keyword(self):
        self.assertIsNone(inventory_error(value=INV))

    def test_not_a_pair(self):
        for value in ([], (), (ROOTS,), (ROOTS, ITEMS, ()), [ROOTS, ITEMS], list(INV), None, "ab", HUGE, {}):
            self.check(value, ("inventory",))

    def test_number_of_roots(self):
        for count in range(7):
            expected = None if 1 <= count <= 4 else ("roots",)
            self.check((("k",) * count, ITEMS), expected)
        self.check((["k"], ITEMS), ("roots",))
        self.check(("k", ITEMS), ("roots",))

    def test_number_of_items(self):
        for count in (0, 1, 2, 23, 24, 25, 26):
            expected = None if 1 <= count <= 24 else ("items",)
            self.check((("k",), [(name, "k", ()) for name in names(count)]), expected)
        self.check((("k",), tuple(ITEMS)), ("items",))

    def test_number_of_slots(self):
        for count in range(7):
            expected = None if count <= 4 else ("item", 1)
            self.check((("k",), [("a", "k", ()), ("b", "k", ("k",) * count)]), expected)
        self.check((("k",), [("a", "k", ["k"])]), ("item", 0))
        self.check((("k",), [("a", "k", "k")]), ("item", 0))

    def test_number_of_kinds(self):
        kinds = ("p", "q", "r", "s", "t", "u", "v", "w")
        for count in range(1, 9):
            some = kinds[:count]
            expected = None if count <= 6 else ("kinds",)
            as_items = [(name, kind, ()) for name, kind in zip(names(count), some)]
            self.check((("p",), as_items), expected)
            self.check((some[:4], [("a", "p", some[4:])]), expected)
            if count > 2:
                self.check((some[:1], [("a", some[1], some[2:6]), ("b", "p", some[6:])]), expected)
        self.check((kinds[:4], [("a", "t", ()), ("b", "u", ("p",))]), None)
        self.check((kinds[:4], [("a", "t", ()), ("b", "u", ("v",))]), ("kinds",))
        self.check((kinds[:4], [("a", "t", ()), ("b", "v", ("u",))]), ("kinds",))
        self.check((kinds[1:4] + ("v",), [("a", "t", ()), ("b", "p", ("u",))]), ("kinds",))
        # Names are not kinds.
        self.check((kinds[:4], [("x", "t", ()), ("y", "u", ()), ("z", "p", ())]), None)

    def test_words(self):
        for word in GOOD_WORDS:
            self.check_word_as_everything(word, True)
        for word in BAD_WORDS + ["ab" * 2000]:
            self.check_word_as_everything(word, False)
        for letter in map(chr, range(128)):
            self.check_word_as_everything(letter, "a" <= letter <= "z")
            self.check_word_as_everything("a" + letter, "a" <= letter <= "z")

    def test_length_of_words(self):
        for length in range(11):
            self.check_word_as_everything("q" * length, 1 <= length <= 8)

    def test_order_of_names(self):
        for first, second in (("a", "a"), ("b", "a"), ("ab", "a"), ("b", "ab"), ("zz", "z")):
            self.check((("k",), [(first, "k", ()), (second, "k", ())]), ("item", 1))
            self.check((("k",), [("a", "k", ()), ("bb", "k", ()), ("ba", "k", ())]), ("item", 2))
        for first, second in (("a", "b"), ("a", "aa"), ("ab", "b"), ("z", "zz")):
            self.check((("k",), [(first, "k", ()), (second, "k", ())]), None)
        self.check((("k",), [("b", "k", ()), ("c", "k", ()), ("b", "k", ())]), ("item", 2))

    def test_least_index(self):
        for k in range(24):
            items = [(name, "k", ()) for name in names(24)]
            items[k] = None
            self.check((("k",), items), ("item", k))
            items[23] = None
            self.check((("k",), items), ("item", k))

    def test_length_of_items(self):
        for item in ((), ("a",), ("a", "k"), ("a", "k", (), ()), ["a", "k", ()], "akk", None):
            self.check((("k",), [item]), ("item", 0))

    def test_order_of_reasons(self):
        many = [(name, kind, ()) for name, kind in zip(names(7), "pqrstuv")]
        self.check(((), [], ()), ("inventory",))
        self.check(((), []), ("roots",))
        self.check(((), [None]), ("roots",))
        self.check((("K",), many), ("roots",))
        self.check((("k",), [None] * 25), ("items",))
        self.check((("k",), tuple(many)), ("items",))
        self.check((("k",), many + [None]), ("item", 7))
        self.check((("k",), many + [("a", "k", ())]), ("item", 7))
        self.check((("k",), many), ("kinds",))

    def test_values_of_every_sort_in_every_place(self):
        for value in values_of_every_sort():
            for inventory in inventories_with(value):
                self.check(inventory, reference_error(inventory))

    def test_argument_does_not_change(self):
        for value in values_of_every_sort():
            for inventory in inventories_with(value):
                before = copy.deepcopy(inventory)
                inventory_error(inventory)
                self.assertTrue(is_same(inventory, before))


class InvalidInventoryTest(unittest.TestCase):

    def check_raises(self, reason, function, *arguments):
        with self.assertRaises(InvalidInventory) as raised:
            function(*arguments)
        self.assertIs(type(raised.exception), InvalidInventory)
        self.assertTrue(is_same(raised.exception.reason, reason))

    def test_every_function_checks_the_inventory_first(self):
        for value in values_of_every_sort():
            for inventory in inventories_with(value):
                reason = reference_error(inventory)
                if reason is None:
                    continue
                self.check_raises(reason, list_slots, inventory)
                self.check_raises(reason, slot_surplus, inventory)
                for other in (value, None, HUGE, ("", 0), ["a"], nested(False, 100)):
                    self.check_raises(reason, slot_kind, inventory, other)
                    self.check_raises(reason, arrangement_error, inventory, other)
                    self.check_raises(reason, slot_of, inventory, other, value)
                    self.check_raises(reason, ancestors_of, inventory, other, value)
                    self.check_raises(reason, descendants_of, inventory, other, value)

    def test_each_reason(self):
        many = [(name, kind, ()) for name, kind in zip(names(7), "pqrstuv")]
        for inventory, reason in (
            ([], ("inventory",)),
            (((), many), ("roots",)),
            ((("k",), []), ("items",)),
            ((("k",), [("b", "k", ()), ("a", "k", ())]), ("item", 1)),
            ((("k",), many), ("kinds",)),
        ):
            self.check_raises(reason, list_slots, inventory)
            self.check_raises(reason, slot_kind, inventory, ("", 0))
            self.check_raises(reason, slot_surplus, inventory)
            self.check_raises(reason, arrangement_error, inventory, ["a"])
            self.check_raises(reason, slot_of, inventory, ["a"], "a")
            self.check_raises(reason, ancestors_of, inventory, ["a"], "a")
            self.check_raises(reason, descendants_of, inventory, ["a"], "a")


class ListSlotsTest(unittest.TestCase):

    def test_example(self):
        self.assertEqual(list_slots(INV), [("", 0), ("a", 0), ("b", 0)])

    def test_order(self):
        inventory = (("k", "m", "k"), [("a", "k", ()), ("aa", "k", ("m", "k")), ("b", "m", ("k",) * 4)])
        expected = [("", 0), ("", 1), ("", 2), ("aa", 0), ("aa", 1), ("b", 0), ("b", 1), ("b", 2), ("b", 3)]
        found = list_slots(inventory)
        self.assertTrue(is_same(found, expected))
        self.assertEqual(found, sorted(found))

    def test_least_and_most_slots(self):
        self.assertEqual(list_slots((("k",), [("a", "m", ())])), [("", 0)])
        full = (("k",) * 4, [(name, "k", ("k",) * 4) for name in names(24)])
        expected = [(owner, i) for owner in [""] + names(24) for i in range(4)]
        self.assertEqual(list_slots(full), expected)

    def test_result_is_new_and_argument_does_not_change(self):
        inventory = copy.deepcopy(INV)
        first = list_slots(inventory=inventory)
        second = list_slots(inventory)
        self.assertIsNot(first, second)
        first.clear()
        self.assertEqual(list_slots(inventory), second)
        self.assertTrue(is_same(inventory, INV))


class SlotKindTest(unittest.TestCase):

    inventory = (ROOTS, ITEMS)

    def test_example(self):
        with self.assertRaises(UnknownSlot):
            slot_kind(INV, ("c", 0))

    def test_root_slots_and_slots_of_items(self):
        kinds = {("", 0): "k", ("", 1): "m", ("a", 0): "k", ("a", 1): "n", ("cd", 0): "m"}
        self.assertEqual(list_slots(self.inventory), list(kinds))
        for slot, kind in kinds.items():
            self.assertTrue(is_same(slot_kind(self.inventory, slot), kind))
            self.assertEqual(slot_kind(inventory=self.inventory, slot=slot), kind)

    def test_unknown_slots(self):
        for slot in (
            ("", True), ("", False), ("a", True), ("a", False), ("cd", False), ("cd", True),
            ("", -1), ("a", -1), ("a", -2), ("cd", -1), ("", 2), ("a", 2), ("b", 0), ("cd", 1),
            ("", HUGE), ("a", HUGE), ("a", -HUGE), ("b", -1),
            ["", 0], ["a", 0], ["a", 1], ("c", 0), ("A", 0), ("k", 0), ("cde", 0), (" ", 0),
            ("",), ("a",), ("a", 0, 0), (), [], (0, ""), (0, "a"), ("a", "0"), ("a", None),
            ("a", (0,)), ("a", [0]), (("a",), 0), (["a"], 0), (None, 0), (0, 0), (("a", 0),),
            "", "a", "a0", None, 0, True, False, [("a", 0)],
        ):
            with self.assertRaises(UnknownSlot) as raised:
                slot_kind(self.inventory, slot)
            self.assertIs(type(raised.exception), UnknownSlot)

    def test_values_of_every_sort(self):
        for value in values_of_every_sort():
            for slot in (value, (value, 0), ("a", value), ("", value), (value, value), [value, 0]):
                if any(is_same(slot, known) for known in list_slots(self.inventory)):
                    self.assertIn(slot_kind(self.inventory, slot), ("k", "m", "n"))
                else:
                    self.assertRaises(UnknownSlot, slot_kind, self.inventory, slot)

    def test_arguments_do_not_change(self):
        inventory, slot = copy.deepcopy(self.inventory), ["a", [0]]
        self.assertRaises(UnknownSlot, slot_kind, inventory, slot)
        slot_kind(inventory, ("a", 0))
        self.assertTrue(is_same(inventory, self.inventory))
        self.assertTrue(is_same(slot, ["a", [0]]))


class SlotSurplusTest(unittest.TestCase):

    def check(self, inventory, expected):
        self.assertTrue(is_same(slot_surplus(inventory), expected), expected)

    def test_example(self):
        self.assertEqual(slot_surplus((("k", "m"), [("a", "k", ("k",))])), {"k": 1, "m": 1})

    def test_no_differences(self):
        self.check(INV, {})
        self.check((("k",), [("a", "k", ())]), {})
        self.check((ROOTS, ITEMS), {"k": 1, "m": 1})

    def test_positive_and_negative_differences(self):
        self.check((("k",), [("a", "m", ())]), {"k": 1, "m": -1})
        self.check((("m",), [("a", "k", ())]), {"k": -1, "m": 1})
        items = [("a", "p", ("z", "z")), ("b", "p", ()), ("c", "p", ("b",)), ("d", "b", ())]
        self.check((("y", "p"), items), {"p": -2, "y": 1, "z": 2})

    def test_ascending_order(self):
        items = [("a", "z", ("d", "c")), ("b", "y", ("b", "a"))]
        self.check((("zz",), items[:1]), {"c": 1, "d": 1, "z": -1, "zz": 1})
        self.check((("b",), items), {"a": 1, "b": 2, "c": 1, "d": 1, "y": -1, "z": -1})

    def test_greatest_differences(self):
        kind = "abcdefgh"
        self.check(((kind,) * 4, [(name, kind, (kind,) * 4) for name in names(24)]), {kind: 76})
        self.check((("x",), [(name, kind, ()) for name in names(24)]), {kind: -24, "x": 1})

    def test_result_is_new_and_argument_does_not_change(self):
        inventory = (ROOTS, ITEMS)
        before = copy.deepcopy(inventory)
        first = slot_surplus(inventory=inventory)
        second = slot_surplus(inventory)
        self.assertIsNot(first, second)
        first.clear()
        self.assertEqual(slot_surplus(inventory), second)
        self.assertTrue(is_same(inventory, before))


if __name__ == "__main__":
    unittest.main()
