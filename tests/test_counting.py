"""Tests of likeholes/counting.py: points 30 to 33, with point 3."""

import collections
import fractions
import itertools
import math
import random
import unittest

from likeholes.counting import (
    count_arrangements, count_up_to_twins, determinant, placement_share, possible_items,
)
from likeholes.errors import InvalidInventory, InvalidPlacements, UnknownItem, UnknownSlot
from likeholes.inventories import list_slots, slot_kind
from likeholes.placements import find_arrangement
from tests.references import (
    arrangements, kinds_of_items, nesting_of, reference_count, reference_determinant, satisfying, twin_classes,
)
from tests.samples import (
    CUT_OFF, LARGER, MIXED, SIX_KINDS, SMALL, SPLIT, STEPS, TWINS, WIDE, WITHOUT, hopeful_placements,
    large_inventories, random_arrangement, some_placements,
)
from tests.values import HUGE, INV, chain_inventory, is_same, values_of_every_sort

ALL = SMALL + CUT_OFF + LARGER + TWINS[:4] + SIX_KINDS[:2] + WITHOUT + [WIDE, STEPS]


def names_of(inventory):
    return [item[0] for item in inventory[1]]


def part_of(chance, inventory, arrangement):
    """Return some placements of the arrangement, which it satisfies."""
    slots = list_slots(inventory)
    chosen = sorted(chance.sample(range(len(slots)), chance.randint(0, len(slots))))
    return [(slots[k], arrangement[k]) for k in chosen]


def with_another(required, slot, name):
    return sorted([*required, (slot, name)])


class CountArrangementsTest(unittest.TestCase):

    def check(self, inventory, required, expected):
        for placements in (list(required), tuple(required)):
            self.assertTrue(is_same(count_arrangements(inventory, required=placements), expected), (required, expected))
        word, _ = find_arrangement(inventory, required=required)
        self.assertEqual(word, "arrangement" if expected else "impossible")

    def test_example(self):
        self.assertTrue(is_same(count_arrangements(INV), 2))

    def test_small_inventories(self):
        for inventory in ALL:
            number = len(arrangements(inventory))
            self.assertTrue(is_same(count_arrangements(inventory), number))
            self.check(inventory, [], number)
        numbers = [count_arrangements(inventory) for inventory in TWINS + SIX_KINDS]
        self.assertGreater(min(numbers[:5]), 1)
        self.assertEqual(numbers[5:7], [1, 1])
        self.assertGreater(numbers[7], 1)

    def test_some_placements_of_small_inventories(self):
        chance = random.Random(1)
        for inventory in ALL:
            found = arrangements(inventory)
            for required in some_placements(chance, inventory, 250):
                self.check(inventory, required, len(satisfying(inventory, required, found)))

    def test_placements_of_one_arrangement_and_others_near_it(self):
        chance = random.Random(2)
        for inventory in ALL:
            found = arrangements(inventory)
            for _ in range(100 if found else 0):
                required = hopeful_placements(chance, inventory, chance.choice(found))
                self.check(inventory, required, len(satisfying(inventory, required, found)))

    def test_seven_and_eight_items(self):
        chance = random.Random(3)
        for inventory in (TWINS[4], SIX_KINDS[2]):
            candidates = arrangements_by_kind(inventory)
            self.check(inventory, [], len(candidates))
            for _ in range(60):
                required = hopeful_placements(chance, inventory, chance.choice(candidates))
                self.check(inventory, required, len(satisfying(inventory, required, candidates)))

    def test_all_slots_required(self):
        for inventory in ALL:
            slots = list_slots(inventory)
            found = arrangements(inventory)
            for arrangement in found[:5]:
                self.check(inventory, list(zip(slots, arrangement)), 1)
                self.check(inventory, list(zip(slots, arrangement))[:-1], 1)
            for chosen in itertools.islice(itertools.permutations(names_of(inventory), len(slots)), 20):
                self.check(inventory, list(zip(slots, chosen)), int(list(chosen) in found))

    def test_valid_certificates(self):
        # Cycles, also beside the root cluster; an item that is required twice; items in slots of other kinds.
        self.check(INV, [(("a", 0), "b"), (("b", 0), "a")], 0)
        self.check(INV, [(("a", 0), "a")], 0)
        self.check(INV, [(("", 0), "a"), (("a", 0), "a")], 0)
        self.check(INV, [(("", 0), "c")], 0)
        self.check(MIXED, [(("a", 0), "c"), (("c", 0), "a")], 0)
        self.check(MIXED, [(("", 0), "b"), (("a", 1), "b")], 0)
        self.check(MIXED, [(("", 0), "c")], 0)
        self.check(MIXED, [(("a", 0), "b")], 0)
        self.check(MIXED, [(("", 0), "b"), (("", 1), "d")], 0)
        ring = chain_inventory(24)
        names = names_of(ring)
        self.check(ring, [((name, 0), other) for name, other in zip(names[:5], names[1:5] + names[:1])], 0)
        self.check(ring, [((name, 0), other) for name, other in zip(names[:5], names[1:6])], math.factorial(18))

    def test_kinds_without_items_or_slots(self):
        for inventory in WITHOUT + CUT_OFF:
            self.check(inventory, [], 0)
            for slot, name in itertools.product(list_slots(inventory), names_of(inventory)):
                self.check(inventory, [(slot, name)], 0)

    def test_one_kind(self):
        # With n items and r root slots of one kind, the number is r * (n - 1)!.
        for count, roots in itertools.product(range(1, 25), range(1, 5)):
            if count >= roots:
                chain = [("a" + letter, "k", ("k",)) for letter in "abcdefghijklmnopqrstuvwxyz"[:count - roots]]
                leaves = [(letter, "k", ()) for letter in "wxyz"[:roots]]
                self.check((("k",) * roots, chain + leaves), [], roots * math.factorial(count - 1))

    def test_formula_for_large_inventories(self):
        chance = random.Random(4)
        for inventory in large_inventories():
            self.check(inventory, [], reference_count(inventory, []))
            arrangement = random_arrangement(chance, inventory)
            for _ in range(6):
                required = part_of(chance, inventory, arrangement)
                self.check(inventory, required, reference_count(inventory, required))

    def test_every_item_of_one_slot(self):
        chance = random.Random(5)
        for inventory in ALL + large_inventories():
            if not list_slots(inventory) or count_arrangements(inventory) == 0:
                continue
            required = part_of(chance, inventory, random_arrangement(chance, inventory))
            taken = [slot for slot, _ in required]
            left = [slot for slot in list_slots(inventory) if slot not in taken]
            for slot in chance.sample(left, min(4, len(left))):
                names = [name for name in names_of(inventory) if kinds_of_items(inventory)[name] == slot_kind(
                    inventory, slot
                )]
                numbers = [
                    count_arrangements(inventory, required=with_another(required, slot, name)) for name in names
                ]
                self.assertEqual(sum(numbers), count_arrangements(inventory, required=required))

    def test_the_number_depends_on_kinds_and_numbers_of_slots_alone(self):
        chance = random.Random(6)
        for inventory in TWINS + SIX_KINDS + LARGER + large_inventories():
            names = {name: "x" + name for name in chance.sample(names_of(inventory), len(inventory[1]) // 2)}
            slots = collections.defaultdict(list)
            for _, kind, kinds in inventory[1]:
                slots[kind].extend(kinds)
            items = []
            for name, kind, _ in inventory[1]:
                rest = len([item for item in inventory[1] if item[1] == kind]) - 1
                rest -= len([item for item in items if item[1] == kind])
                least = max(0, len(slots[kind]) - 4 * rest)
                count = chance.randint(least, max(least, min(4, len(slots[kind]))))
                taken = chance.sample(slots[kind], count)
                for taken_kind in taken:
                    slots[kind].remove(taken_kind)
                items.append((names.get(name, name), kind, tuple(taken)))
            self.assertFalse(any(slots.values()))
            other = (inventory[0], sorted(items))
            self.assertEqual(count_arrangements(other), count_arrangements(inventory))

    def test_wrong_arguments(self):
        for value in values_of_every_sort():
            with self.assertRaises(InvalidInventory):
                count_arrangements(value, required=value)
            if value not in ((), []):
                with self.assertRaises(InvalidPlacements):
                    count_arrangements(INV, required=value)
        for required in ([(("", False), "a")], [(("", 0), "z")], [(("a", 0), "b"), (("", 0), "a")], [("", 0, "a")]):
            with self.assertRaises(InvalidPlacements):
                count_arrangements(INV, required=required)
            with self.assertRaises(InvalidPlacements):
                count_arrangements(SPLIT, required=required)


def arrangements_by_kind(inventory):
    """Return all arrangements, from all orders of the items of each kind, which is quicker than all orders."""
    slots = list_slots(inventory)
    kinds = sorted(set(kinds_of_items(inventory).values()))
    names = [[name for name, kind in kinds_of_items(inventory).items() if kind == one] for one in kinds]
    places = [k for one in kinds for k, slot in enumerate(slots) if slot_kind(inventory, slot) == one]
    found = []
    for chosen in itertools.product(*[itertools.permutations(some) for some in names]):
        placed = dict(zip(places, itertools.chain(*chosen)))
        arrangement = [placed[k] for k in range(len(slots))]
        parents = dict(zip(arrangement, [slot[0] for slot in slots]))
        rooted = {""}
        for _ in names_of(inventory):
            rooted |= {name for name in arrangement if parents[name] in rooted}
        if len(rooted) > len(arrangement):
            found.append(arrangement)
    return sorted(found)


class DeterminantTest(unittest.TestCase):

    def test_small_matrices(self):
        self.assertEqual(determinant([]), 1)
        self.assertEqual(determinant([[-3]]), -3)
        for size, most in ((1, 5), (2, 2), (3, 1)):
            for entries in itertools.product(range(-most, most + 1), repeat=size * size):
                rows = [list(entries[k * size:(k + 1) * size]) for k in range(size)]
                self.assertEqual(determinant(rows), reference_determinant(rows))

    def test_six_rows(self):
        chance = random.Random(1)
        for _ in range(100):
            rows = [[chance.choice((0, 0, 0, 1, -2, 30)) for _ in range(6)] for _ in range(6)]
            self.assertEqual(determinant(rows), reference_determinant(rows))


class CountUpToTwinsTest(unittest.TestCase):

    def test_example(self):
        self.assertTrue(is_same(count_up_to_twins(INV), 1))

    def test_small_inventories(self):
        for inventory in ALL:
            nestings = {nesting_of(inventory, arrangement) for arrangement in arrangements(inventory)}
            self.assertTrue(is_same(count_up_to_twins(inventory), len(nestings)))
        for inventory in (TWINS[4], SIX_KINDS[2]):
            nestings = {nesting_of(inventory, arrangement) for arrangement in arrangements_by_kind(inventory)}
            self.assertEqual(count_up_to_twins(inventory), len(nestings))
        self.assertGreater(len(nestings), 1)

    def test_items_that_are_alike_but_no_twins(self):
        # The order of the slots and the kinds count.
        self.assertEqual(count_up_to_twins(TWINS[2]) * 2, count_arrangements(TWINS[2]))
        inventory = (("k", "m"), [("a", "k", ()), ("b", "m", ())])
        self.assertEqual(count_up_to_twins(inventory), 1)

    def test_large_inventories(self):
        for inventory in large_inventories():
            factors = [math.factorial(len(names)) for names in twin_classes(inventory)]
            self.assertEqual(count_up_to_twins(inventory) * math.prod(factors), count_arrangements(inventory))
        self.assertEqual(count_up_to_twins(chain_inventory(24)), 1)
        # Items with two slots each, and leaves: as many as there are binary trees.
        names = [first + second for first in "ab" for second in "cdefghijklmn"][:23]
        inventory = (("k",), [(name, "k", ("k", "k") if k < 11 else ()) for k, name in enumerate(names)])
        self.assertEqual(count_up_to_twins(inventory), 58786)

    def test_no_arrangement(self):
        for inventory in WITHOUT + CUT_OFF:
            self.assertTrue(is_same(count_up_to_twins(inventory), 0))
        for value in values_of_every_sort():
            with self.assertRaises(InvalidInventory):
                count_up_to_twins(value)


class PlacementShareTest(unittest.TestCase):

    def test_example(self):
        self.assertTrue(is_same(placement_share(INV, ("", 0), "a"), (1, 2)))

    def test_small_inventories(self):
        never = 0
        for inventory in ALL:
            slots = list_slots(inventory)
            found = arrangements(inventory)
            for (k, slot), name in itertools.product(enumerate(slots), names_of(inventory)):
                expected = None
                if found:
                    share = fractions.Fraction(len([one for one in found if one[k] == name]), len(found))
                    expected = (share.numerator, share.denominator)
                    never += expected == (0, 1)
                self.assertTrue(is_same(placement_share(inventory, slot, name), expected), (slot, name))
        self.assertGreater(never, 10)

    def test_never(self):
        # An item of another kind, an item in its own slot, and a leaf where something has to hang below.
        self.assertTrue(is_same(placement_share(MIXED, ("", 0), "c"), (0, 1)))
        self.assertTrue(is_same(placement_share(INV, ("a", 0), "a"), (0, 1)))
        self.assertTrue(is_same(placement_share(INV, ("", 0), "c"), (0, 1)))

    def test_always(self):
        self.assertTrue(is_same(placement_share((("k",), [("a", "k", ())]), ("", 0), "a"), (1, 1)))
        self.assertTrue(is_same(placement_share(SIX_KINDS[0], ("c", 0), "d"), (1, 1)))

    def test_no_arrangement(self):
        for inventory in WITHOUT + CUT_OFF:
            for slot, name in itertools.product(list_slots(inventory), names_of(inventory)):
                self.assertIsNone(placement_share(inventory, slot, name))

    def test_slots_for_the_own_kind(self):
        # Point 32: every other item of the kind has the share 1 / (n - 1).
        for inventory in [INV, MIXED] + LARGER[:1] + TWINS[:3] + large_inventories()[2:4]:
            kinds = kinds_of_items(inventory)
            for slot in list_slots(inventory):
                kind = slot_kind(inventory, slot)
                if kinds.get(slot[0]) == kind:
                    others = [name for name in kinds if kinds[name] == kind and name != slot[0]]
                    for name in others:
                        self.assertEqual(placement_share(inventory, slot, name), (1, len(others)))
                    self.assertEqual(placement_share(inventory, slot, slot[0]), (0, 1))

    def test_shares_of_large_inventories(self):
        chance = random.Random(1)
        for inventory in large_inventories():
            slots, names = list_slots(inventory), names_of(inventory)
            for slot in chance.sample(slots, 3):
                shares = [fractions.Fraction(*placement_share(inventory, slot, name)) for name in names]
                self.assertEqual(sum(shares), 1)
            for name in chance.sample(names, 3):
                pairs = [placement_share(inventory, slot, name) for slot in slots]
                self.assertEqual(sum(fractions.Fraction(*pair) for pair in pairs), 1)
                for above, below in pairs:
                    self.assertEqual(math.gcd(above, below), 1)
                    self.assertGreater(below, 0)

    def test_unknown_slots(self):
        others = values_of_every_sort() + [
            ("", False), ("", True), ("a", False), ("a", True), ("", -1), ("", 1), ("a", 1), ("c", 0), ("z", 0),
            ["a", 0], ("a", 0, 0), ("a",), (0, "a"), ("", HUGE), ("a", -1),
        ]
        for slot in others:
            if not is_same(slot, ("", 0)) and not is_same(slot, ("a", 0)):
                for name in ["a", "zz"] + values_of_every_sort():
                    with self.assertRaises(UnknownSlot):
                        placement_share(INV, slot, name)
                with self.assertRaises(UnknownSlot):
                    placement_share(WITHOUT[2], slot, "a")
                with self.assertRaises(UnknownSlot):
                    placement_share(WITHOUT[2], slot, slot)
                with self.assertRaises(UnknownSlot):
                    possible_items(INV, slot)
                with self.assertRaises(UnknownSlot):
                    possible_items(WITHOUT[2], slot)

    def test_unknown_items(self):
        for name in values_of_every_sort() + ["z", "k", "A", "", ["a"], ("a",), True]:
            if name != "a":
                for inventory, slot in ((INV, ("a", 0)), (WITHOUT[2], ("a", 0)), (SPLIT, ("b", 0))):
                    with self.assertRaises(UnknownItem):
                        placement_share(inventory, slot, name)

    def test_the_inventory_comes_first(self):
        for value in values_of_every_sort():
            for other in (("", 0), ("", False), None, HUGE):
                with self.assertRaises(InvalidInventory):
                    placement_share(value, other, "a")
                with self.assertRaises(InvalidInventory):
                    placement_share(value, other, other)
                with self.assertRaises(InvalidInventory):
                    possible_items(value, other)


class PossibleItemsTest(unittest.TestCase):

    def test_example(self):
        self.assertTrue(is_same(possible_items(INV, ("a", 0)), ["b", "c"]))

    def test_small_inventories(self):
        for inventory in ALL:
            found = arrangements(inventory)
            for k, slot in enumerate(list_slots(inventory)):
                expected = sorted({arrangement[k] for arrangement in found})
                self.assertTrue(is_same(possible_items(inventory, slot), expected))

    def test_large_inventories(self):
        for inventory in large_inventories():
            for slot in list_slots(inventory):
                expected = [name for name in names_of(inventory) if placement_share(inventory, slot, name)[0] > 0]
                self.assertEqual(possible_items(inventory, slot), expected)

    def test_no_arrangement(self):
        for inventory in WITHOUT + CUT_OFF:
            for slot in list_slots(inventory):
                self.assertTrue(is_same(possible_items(inventory, slot), []))


if __name__ == "__main__":
    unittest.main()
