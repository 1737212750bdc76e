"""Tests of likeholes/twins.py: points 36 and 37."""

import itertools
import math
import random
import unittest

from likeholes.errors import InvalidArrangement, InvalidInventory
from likeholes.twins import are_equivalent, splits_evenly
from tests.references import (
    arrangements, nesting_of, reference_after, reference_arrangement_error, twin_classes, twin_permutations,
    with_new_names,
)
from tests.samples import (
    CUT_OFF, LARGER, MIXED, SIX_KINDS, SMALL, SPLIT, TWINS, WITHOUT, large_inventories, random_arrangement,
    random_walk,
)
from tests.values import INV, chain_inventory, is_same, values_of_every_sort

ALL = [inventory for inventory in SMALL + LARGER + TWINS[:4] + SIX_KINDS[:2] if arrangements(inventory)]
LEAVES = (("k",) * 4, [(name, "k", ()) for name in "abcd"])


def random_renaming(chance, inventory):
    """Return a dict that maps each item to itself or to a twin, no two to the same."""
    new_names = {}
    for names in twin_classes(inventory):
        new_names.update(zip(names, chance.sample(names, len(names))))
    return new_names


class AreEquivalentTest(unittest.TestCase):

    def test_example(self):
        self.assertIs(are_equivalent(INV, ["a", "b", "c"], ["b", "c", "a"]), True)

    def test_classes_of_small_inventories(self):
        for inventory in ALL:
            found = arrangements(inventory)
            renamings = twin_permutations(inventory)
            self.assertEqual(
                len(renamings), math.prod(math.factorial(len(names)) for names in twin_classes(inventory))
            )
            for first in found[:40]:
                renamed = [with_new_names(inventory, first, new_names) for new_names in renamings]
                equivalent = [second for second in found if are_equivalent(inventory, first, second)]
                self.assertEqual(sorted(renamed), sorted(equivalent))
                self.assertEqual(len(equivalent), len(renamings))

    def test_it_is_an_equivalence(self):
        for inventory in ALL:
            found = arrangements(inventory)[::3]
            for one in found:
                self.assertIs(are_equivalent(inventory, one, list(one)), True)
            for first, second in itertools.product(found[:50], repeat=2):
                told = are_equivalent(inventory, first, second)
                self.assertIs(told, are_equivalent(inventory=inventory, second=first, first=second))
                self.assertIs(told, nesting_of(inventory, first) == nesting_of(inventory, second))
            for first, second, third in itertools.product(found[:12], repeat=3):
                if are_equivalent(inventory, first, second) and are_equivalent(inventory, second, third):
                    self.assertIs(are_equivalent(inventory, first, third), True)

    def test_seven_items(self):
        inventory = TWINS[4]
        first = random_arrangement(random.Random(1), inventory)
        renamed = {tuple(with_new_names(inventory, first, new_names)) for new_names in twin_permutations(inventory)}
        self.assertEqual(len(renamed), 48)
        for second in renamed:
            self.assertIs(are_equivalent(inventory, first, list(second)), True)

    def test_renamed_twins_in_large_inventories(self):
        chance = random.Random(2)
        for inventory in large_inventories():
            for _ in range(5):
                first = random_arrangement(chance, inventory)
                second = with_new_names(inventory, first, random_renaming(chance, inventory))
                self.assertIsNone(reference_arrangement_error(inventory, second))
                self.assertIs(are_equivalent(inventory, first, second), True)
                self.assertIs(are_equivalent(inventory, second, first), True)

    def test_other_arrangements_of_large_inventories(self):
        chance = random.Random(3)
        told = set()
        for inventory in large_inventories():
            first = random_arrangement(chance, inventory)
            renamed = with_new_names(inventory, first, random_renaming(chance, inventory))
            for move in random_walk(chance, inventory, renamed, 6):
                renamed = reference_after(inventory, renamed, move)
                expected = nesting_of(inventory, first) == nesting_of(inventory, renamed)
                self.assertIs(are_equivalent(inventory, first, renamed), expected)
                told.add(expected)
            other = random_arrangement(chance, inventory)
            expected = nesting_of(inventory, first) == nesting_of(inventory, other)
            self.assertIs(are_equivalent(inventory, first, other), expected)
        self.assertEqual(told, {True, False})

    def test_items_without_the_owners_of_their_slots(self):
        # a and b are twins, but each keeps what is below it only if the slots go with them.
        inventory = (("k", "k"), [("a", "k", ("m",)), ("b", "k", ("m",)), ("c", "m", ()), ("d", "m", ("n",)),
                                  ("e", "n", ())])
        first = ["a", "b", "c", "d", "e"]
        self.assertIs(are_equivalent(inventory, first, ["b", "a", "d", "c", "e"]), True)
        self.assertIs(are_equivalent(inventory, first, ["b", "a", "c", "d", "e"]), False)
        self.assertIs(are_equivalent(inventory, first, ["a", "b", "d", "c", "e"]), False)

    def test_items_that_are_alike_but_no_twins(self):
        # The slots of a and b have another order; those of c and d other kinds; e and f have not as many.
        for items, first, second in (
            ([("a", "k", ("m", "n")), ("b", "k", ("n", "m")), ("c", "m", ()), ("d", "m", ()), ("e", "n", ()),
              ("f", "n", ())], ["a", "b", "c", "e", "f", "d"], ["b", "a", "c", "e", "f", "d"]),
            ([("a", "k", ("m",)), ("b", "k", ("n",)), ("c", "m", ()), ("d", "n", ())],
             ["a", "b", "c", "d"], ["b", "a", "c", "d"]),
            ([("a", "k", ("m",)), ("b", "k", ()), ("c", "m", ())], ["a", "b", "c"], ["b", "a", "c"]),
        ):
            inventory = (("k", "k"), items)
            self.assertIsNone(reference_arrangement_error(inventory, second))
            self.assertIs(are_equivalent(inventory, first, second), False)
            self.assertIs(are_equivalent(inventory, first, first), True)

    def test_leaves(self):
        for first, second in itertools.product(itertools.permutations("abcd"), repeat=2):
            self.assertIs(are_equivalent(LEAVES, list(first), list(second)), True)

    def test_wrong_arguments(self):
        good = ["a", "b", "c"]
        for value in values_of_every_sort() + [["c", "a", "b"], ("a", "b", "c"), ["a", "b"], ["a", "b", "b"]]:
            reason = reference_arrangement_error(INV, value)
            for first, second in ((value, good), (good, value), (value, None), (value, value)):
                with self.assertRaises(InvalidArrangement) as raised:
                    are_equivalent(INV, first, second)
                self.assertTrue(is_same(raised.exception.reason, reason))
        with self.assertRaises(InvalidArrangement) as raised:
            are_equivalent(INV, ["a", "b", "b"], ["c", "a", "b"])
        self.assertEqual(raised.exception.reason, ("slot", 2))
        for value in values_of_every_sort():
            for other in values_of_every_sort() + [good]:
                with self.assertRaises(InvalidInventory):
                    are_equivalent(value, other, other)


class SplitsEvenlyTest(unittest.TestCase):

    def test_example(self):
        self.assertIs(splits_evenly(INV), False)

    def test_numbers_of_slots(self):
        for count in range(5):
            twins = [("a", "k", ("k",) * count), ("b", "k", ("k",) * count)]
            for roots in (("k",), ("k", "k"), ("m",) * 4):
                self.assertIs(splits_evenly((roots, twins)), count % 2 == 0)
                self.assertIs(splits_evenly(inventory=(roots, twins + [("c", "m", ())])), count % 2 == 0)
                self.assertIs(splits_evenly((roots, twins[:1] + [("c", "m", ())])), False)

    def test_odd_and_even_twins_together(self):
        odd = [("a", "k", ("k",)), ("b", "k", ("k",)), ("c", "k", ("k",))]
        even = [("d", "k", ("k", "m")), ("e", "k", ("k", "m"))]
        self.assertIs(splits_evenly((("k",), odd)), False)
        self.assertIs(splits_evenly((("k",), odd + even[:1])), False)
        self.assertIs(splits_evenly((("k",), odd + even)), True)
        self.assertIs(splits_evenly((("k",), even)), True)

    def test_items_that_are_alike_but_no_twins(self):
        for items in (
            [("a", "k", ("k", "m")), ("b", "k", ("m", "k"))], [("a", "k", ()), ("b", "m", ())],
            [("a", "k", ("k", "k")), ("b", "m", ("k", "k"))], [("a", "k", ("k", "k")), ("b", "k", ("k", "m"))],
            [("a", "k", ("m", "m")), ("b", "k", ())], [("a", "k", ("k",) * 4), ("b", "k", ("k",) * 2)],
        ):
            self.assertIs(splits_evenly((("k",), items)), False)

    def test_without_an_arrangement(self):
        self.assertIs(splits_evenly(SPLIT), False)
        for inventory in WITHOUT + CUT_OFF:
            self.assertIs(splits_evenly(inventory), False)
            leaves = [("y", "k", ()), ("z", "k", ())]
            self.assertIs(splits_evenly((inventory[0], inventory[1] + leaves)), True)
            pair = [("y", "m", ("k", "k")), ("z", "m", ("k", "k"))]
            self.assertIs(splits_evenly((inventory[0], inventory[1] + pair)), True)

    def test_by_the_words_of_the_document(self):
        for inventory in SMALL + LARGER + TWINS + SIX_KINDS + [MIXED] + large_inventories():
            pairs = [pair for names in twin_classes(inventory) for pair in itertools.combinations(names, 2)]
            numbers = {name: len(slots) for name, _, slots in inventory[1]}
            self.assertIs(splits_evenly(inventory), any(numbers[one] % 2 == 0 for one, _ in pairs))
        self.assertIs(splits_evenly(chain_inventory(24)), False)
        self.assertIs(splits_evenly(LEAVES), True)

    def test_wrong_arguments(self):
        for value in values_of_every_sort():
            with self.assertRaises(InvalidInventory):
                splits_evenly(value)


if __name__ == "__main__":
    unittest.main()
