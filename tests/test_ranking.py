"""Tests of likeholes/ranking.py: points 34 and 35."""

import itertools
import random
import unittest

from likeholes.counting import count_arrangements
from likeholes.errors import (
    InvalidArrangement, InvalidIndex, InvalidInventory, InvalidPlacements, PlacementNotMet,
)
from likeholes.inventories import list_slots
from likeholes.ranking import arrangement_at, index_of
from tests.references import arrangements, reference_arrangement_error, satisfying
from tests.samples import (
    CUT_OFF, LARGER, MIXED, SIX_KINDS, SMALL, STEPS, TWINS, WIDE, WITHOUT, hopeful_placements, large_inventories,
    random_arrangement, some_placements,
)
from tests.values import HUGE, INV, is_same, values_of_every_sort

ALL = SMALL + CUT_OFF + LARGER + TWINS[:4] + SIX_KINDS[:2] + WITHOUT + [WIDE, STEPS]


def part_of(chance, inventory, arrangement, count):
    """Return so many placements of the arrangement."""
    slots = list_slots(inventory)
    return [(slots[k], arrangement[k]) for k in sorted(chance.sample(range(len(slots)), count))]


class SmallInventoriesTest(unittest.TestCase):

    def check_all(self, inventory, required, expected):
        """Check every index of the arrangements that are expected, and the ones beside them."""
        for index, arrangement in enumerate(expected):
            self.assertTrue(is_same(arrangement_at(inventory, index, required=required), arrangement))
            self.assertTrue(is_same(index_of(inventory, arrangement, required=required), index))
        for index in (-1, -2, len(expected), len(expected) + 1, HUGE, -HUGE):
            with self.assertRaises(InvalidIndex):
                arrangement_at(inventory, index, required=required)

    def test_examples(self):
        self.assertTrue(is_same(arrangement_at(INV, 1), ["b", "c", "a"]))
        with self.assertRaises(PlacementNotMet):
            index_of(INV, ["b", "c", "a"], required=[(("", 0), "a")])

    def test_every_index(self):
        for inventory in ALL:
            found = sorted(arrangements(inventory))
            self.check_all(inventory, [], found)
            self.check_all(inventory, (), found)
            for index, arrangement in enumerate(found):
                self.assertEqual(arrangement_at(inventory, index), arrangement)
                self.assertEqual(index_of(inventory, arrangement), index)

    def test_every_index_with_placements(self):
        chance = random.Random(1)
        for inventory in ALL:
            found = sorted(arrangements(inventory))
            several = some_placements(chance, inventory, 15)[:60]
            several += [hopeful_placements(chance, inventory, chance.choice(found)) for _ in range(15 if found else 0)]
            for k, required in enumerate(several):
                placements = tuple(required) if k % 2 else required
                self.check_all(inventory, placements, satisfying(inventory, required, found))

    def test_names_are_ordered_as_strings(self):
        inventory = (("k",) * 4, [("a", "k", ()), ("aa", "k", ()), ("b", "k", ()), ("z", "k", ())])
        expected = [list(order) for order in itertools.permutations(["a", "aa", "b", "z"])]
        self.check_all(inventory, [], expected)

    def test_placements_that_are_not_met(self):
        chance = random.Random(2)
        unmet = 0
        for inventory in ALL:
            found = arrangements(inventory)
            for required in some_placements(chance, inventory, 25)[:60]:
                met = satisfying(inventory, required, found)
                for arrangement in chance.sample(found, min(6, len(found))):
                    if arrangement not in met:
                        unmet += 1
                        for placements in (required, tuple(required)):
                            with self.assertRaises(PlacementNotMet):
                                index_of(inventory, arrangement, required=placements)
        self.assertGreater(unmet, 200)
        # An item that is required twice, a cycle, and an item of another kind are never met.
        for required in (
            [(("", 0), "a"), (("a", 0), "a")], [(("a", 0), "b"), (("b", 0), "a")], [(("", 0), "a"), (("b", 0), "b")],
        ):
            with self.assertRaises(PlacementNotMet):
                index_of(INV, ["a", "b", "c"], required=required)
        with self.assertRaises(PlacementNotMet):
            index_of(MIXED, ["a", "c", "d", "b", "e"], required=[(("", 1), "a")])


class LargeInventoriesTest(unittest.TestCase):

    def check(self, inventory, index, required):
        arrangement = arrangement_at(inventory, index, required=required)
        self.assertIsNone(reference_arrangement_error(inventory, arrangement))
        self.assertEqual(satisfying(inventory, required, [arrangement]), [arrangement])
        self.assertTrue(is_same(index_of(inventory, arrangement, required=required), index))
        return arrangement

    def test_index_of_undoes_arrangement_at(self):
        chance = random.Random(3)
        for inventory in large_inventories():
            arrangement = random_arrangement(chance, inventory)
            slots = list_slots(inventory)
            for size in (0, 1, len(slots) // 2):
                required = part_of(chance, inventory, arrangement, size)
                count = count_arrangements(inventory, required=required)
                indices = [0, count - 1, count // 2] + [chance.randrange(count)]
                found = [self.check(inventory, index, required) for index in sorted(set(indices))]
                self.assertEqual(sorted(found), found)
                for index in (-1, count, count + 1):
                    with self.assertRaises(InvalidIndex):
                        arrangement_at(inventory, index, required=required)

    def test_arrangement_at_undoes_index_of(self):
        chance = random.Random(4)
        for inventory in large_inventories():
            some = sorted(random_arrangement(chance, inventory) for _ in range(2))
            indices = [index_of(inventory, arrangement) for arrangement in some]
            self.assertEqual(sorted(indices), indices)
            for index, arrangement in zip(indices, some):
                self.assertEqual(arrangement_at(inventory, index), arrangement)
                for size in (1, 5):
                    required = part_of(chance, inventory, arrangement, min(size, len(arrangement)))
                    part = index_of(inventory, arrangement, required=required)
                    self.assertEqual(arrangement_at(inventory, part, required=required), arrangement)
                    self.assertLessEqual(part, index)

    def test_neighbours(self):
        # Nothing lies between the arrangements of two indices that follow each other.
        chance = random.Random(5)
        for inventory in large_inventories():
            count = count_arrangements(inventory)
            index = chance.randrange(count - 1) if count > 1 else 0
            if count > 1:
                lesser, greater = arrangement_at(inventory, index), arrangement_at(inventory, index + 1)
                self.assertLess(lesser, greater)
                same = [k for k, name in enumerate(lesser) if lesser[:k + 1] == greater[:k + 1]]
                slots = list_slots(inventory)
                required = [(slots[k], lesser[k]) for k in same]
                parts = [index_of(inventory, one, required=required) for one in (lesser, greater)]
                self.assertEqual(parts[1] - parts[0], 1)

    def test_all_slots_required(self):
        chance = random.Random(6)
        for inventory in large_inventories():
            arrangement = random_arrangement(chance, inventory)
            required = part_of(chance, inventory, arrangement, len(arrangement))
            self.assertEqual(self.check(inventory, 0, required), arrangement)
            with self.assertRaises(InvalidIndex):
                arrangement_at(inventory, 1, required=required)


class WrongArgumentsTest(unittest.TestCase):

    def test_indices(self):
        for index in values_of_every_sort() + [2, 3, -1, True, False, "0", "1", (0,), [0], None]:
            if not is_same(index, 0) and not is_same(index, 1):
                with self.assertRaises(InvalidIndex) as raised:
                    arrangement_at(INV, index)
                self.assertIs(type(raised.exception), InvalidIndex)
                with self.assertRaises(InvalidIndex):
                    arrangement_at(INV, index, required=[(("a", 0), "c")])
        with self.assertRaises(InvalidIndex):
            arrangement_at(INV, 1, required=[(("a", 0), "c")])
        for inventory in WITHOUT + CUT_OFF:
            for index in [0, 1, -1] + values_of_every_sort():
                with self.assertRaises(InvalidIndex):
                    arrangement_at(inventory, index)

    def test_placements_come_before_the_index(self):
        for required in values_of_every_sort() + [[(("", False), "a")], [(("a", 0), "b"), (("", 0), "a")]]:
            if required not in ((), []):
                for index in [0, 7, -1] + values_of_every_sort():
                    with self.assertRaises(InvalidPlacements):
                        arrangement_at(INV, index, required=required)
                with self.assertRaises(InvalidPlacements):
                    index_of(INV, ["a", "b", "c"], required=required)

    def test_the_arrangement_comes_before_the_placements(self):
        for arrangement in values_of_every_sort() + [["c", "a", "b"], ("a", "b", "c"), ["a", "b"], ["a", "a", "c"]]:
            reason = reference_arrangement_error(INV, arrangement)
            for required in [(), [(("", 0), "b")]] + values_of_every_sort():
                with self.assertRaises(InvalidArrangement) as raised:
                    index_of(INV, arrangement, required=required)
                self.assertTrue(is_same(raised.exception.reason, reason))

    def test_the_inventory_comes_first(self):
        for inventory in values_of_every_sort():
            for other in values_of_every_sort():
                with self.assertRaises(InvalidInventory):
                    arrangement_at(inventory, other, required=other)
                with self.assertRaises(InvalidInventory):
                    index_of(inventory, other, required=other)


if __name__ == "__main__":
    unittest.main()
