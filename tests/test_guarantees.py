"""Tests of point 3, over the whole program: paths, moves and numbers of arrangements fit together."""

import itertools
import random
import unittest

from likeholes.counting import count_arrangements, count_up_to_twins, placement_share, possible_items
from likeholes.forests import Forest
from likeholes.inventories import list_slots
from likeholes.moves import apply_moves, first_move, has_even_swaps
from likeholes.paths import check_path, find_path
from likeholes.placements import check_answer, find_arrangement
from likeholes.ranking import arrangement_at, index_of
from likeholes.twins import splits_evenly
from tests.references import arrangements, kinds_of_items
from tests.samples import (
    CUT_OFF, LARGER, SIX_KINDS, SMALL, SPLIT, STEPS, TWINS, WIDE, WITHOUT, hopeful_placements, large_inventories,
    random_arrangement, some_placements,
)

FEW = [inventory for inventory in SMALL + LARGER + TWINS[:4] + SIX_KINDS[:2] if arrangements(inventory)]
NONE = [inventory for inventory in SMALL if not arrangements(inventory)] + CUT_OFF + WITHOUT + [WIDE]


def subsets(entries):
    return [list(some) for count in range(len(entries) + 1) for some in itertools.combinations(entries, count)]


class MovesAndNumbersTest(unittest.TestCase):

    def check(self, inventory, arrangement, pinned):
        """Check that there is no move exactly where no other arrangement has the same items in the pinned slots."""
        required = [(slot, name) for slot, name in zip(list_slots(inventory), arrangement) if slot in pinned]
        is_only = count_arrangements(inventory, required=required) == 1
        move = first_move(inventory, arrangement, pinned=pinned)
        self.assertIs(move is None, is_only)
        self.assertEqual(Forest(inventory, arrangement, pinned=pinned).next_move(), move)
        return is_only

    def test_small_inventories_with_all_pins(self):
        for inventory in FEW:
            for arrangement in arrangements(inventory)[:15]:
                for pinned in subsets(list_slots(inventory)):
                    self.check(inventory, arrangement, pinned)
                self.assertIs(first_move(inventory, arrangement) is None, count_arrangements(inventory) == 1)

    def test_large_inventories(self):
        chance = random.Random(1)
        for inventory in large_inventories():
            arrangement = random_arrangement(chance, inventory)
            slots = list_slots(inventory)
            told = [self.check(inventory, arrangement, []), self.check(inventory, arrangement, slots)]
            for count in range(len(slots) - 8, len(slots)):
                pinned = sorted(chance.sample(slots, max(0, count)))
                told.append(self.check(inventory, arrangement, pinned))
            self.assertEqual(set(told), {True, False} if count_arrangements(inventory) > 1 else {True})


class PathsTest(unittest.TestCase):

    def check_path(self, inventory, first, second):
        path = find_path(inventory, first, second)
        self.assertEqual(apply_moves(inventory, first, path), second)
        slots = list_slots(inventory)
        same = [slot for slot, one, other in zip(slots, first, second) if one == other]
        self.assertIsNone(check_path(inventory, first, second, ("moves", path), pinned=same))
        changed = [name for name, other in zip(first, second) if name != other]
        kinds = {kinds_of_items(inventory)[name] for name in changed}
        self.assertLessEqual(len(path), max(0, len(changed) - 1) * (len(kinds) + 1))
        swaps = [move for move in path if move[0] == "swap"]
        self.assertIs(has_even_swaps(inventory, first, second), len(swaps) % 2 == 0)

    def test_all_pairs_of_small_inventories(self):
        for inventory in FEW:
            found = arrangements(inventory)
            for first, second in itertools.product(found if len(found) < 60 else found[::5], repeat=2):
                self.check_path(inventory, first, second)

    def test_arrangements_by_their_indices(self):
        # All arrangements are found by their indices, and a forest goes from each to the next.
        for inventory in (TWINS[4], SIX_KINDS[2], STEPS):
            count = count_arrangements(inventory)
            forest = Forest(inventory, arrangement_at(inventory, 0))
            for index in range(0, count, max(1, count // 60)):
                target = arrangement_at(inventory, index)
                self.check_path(inventory, forest.current(), target)
                forest.go_to(target)
                self.assertEqual(index_of(inventory, forest.current()), index)

    def test_large_inventories(self):
        chance = random.Random(2)
        for inventory in large_inventories():
            count = count_arrangements(inventory)
            indices = [0, count - 1] + [chance.randrange(count) for _ in range(2)]
            some = [arrangement_at(inventory, index) for index in indices]
            for first, second in itertools.permutations(some, 2):
                self.check_path(inventory, first, second)


class HalvesTest(unittest.TestCase):

    def test_even_numbers_of_swaps(self):
        split = 0
        for inventory in FEW + [TWINS[4]]:
            found = [arrangement_at(inventory, index) for index in range(count_arrangements(inventory))]
            for first in found[:4]:
                even = [second for second in found if has_even_swaps(inventory, first, second)]
                if splits_evenly(inventory):
                    self.assertEqual(len(even) * 2, len(found))
                    split += 1
        self.assertGreater(split, 20)


class ArrangementsOrCertificatesTest(unittest.TestCase):

    def check(self, inventory, required):
        answer = find_arrangement(inventory, required=required)
        self.assertIs(check_answer(inventory, answer, required=required), True)
        count = count_arrangements(inventory, required=required)
        self.assertEqual(answer[0], "arrangement" if count > 0 else "impossible")
        if count > 0:
            index = index_of(inventory, answer[1], required=required)
            self.assertLess(index, count)
            self.assertEqual(arrangement_at(inventory, index, required=required), answer[1])

    def test_small_inventories(self):
        chance = random.Random(3)
        for inventory in FEW + NONE + [STEPS]:
            for required in some_placements(chance, inventory, 80):
                self.check(inventory, required)

    def test_large_inventories(self):
        chance = random.Random(4)
        for inventory in large_inventories():
            for _ in range(5):
                self.check(inventory, hopeful_placements(chance, inventory, random_arrangement(chance, inventory)))

    def test_inventories_without_an_arrangement(self):
        for inventory in NONE + [SPLIT]:
            self.assertEqual(find_arrangement(inventory)[0], "impossible")
            self.assertEqual([count_arrangements(inventory), count_up_to_twins(inventory)], [0, 0])
            for slot in list_slots(inventory):
                self.assertEqual(possible_items(inventory, slot), [])
                self.assertIsNone(placement_share(inventory, slot, inventory[1][0][0]))


if __name__ == "__main__":
    unittest.main()
