"""Tests of likeholes/paths.py: points 22 to 24, with point 3."""

import itertools
import random
import unittest

from likeholes.inventories import list_slots
from likeholes.moves import moves_error
from likeholes.paths import check_path, find_path
from tests.references import (
    arrangements, kinds_of_items, moves_that_apply, reference_after, reference_after_all, reference_move_error,
)
from tests.samples import (
    LARGER, MIXED, SMALL, TIGHT, grown_inventory, large_inventories, random_arrangement, random_walk,
)
from tests.values import HUGE, INV, chain_inventory, is_same, nested, values_of_every_sort

FEW = [inventory for inventory in SMALL if arrangements(inventory)]
ALL = FEW + LARGER


class FindPathTest(unittest.TestCase):

    def check_guarantees(self, inventory, first, second):
        """Check what points 3 and 22 say of the path between two arrangements."""
        path = find_path(inventory, first, second)
        self.assertIs(type(path), list)
        self.assertLessEqual(len(path), 500)
        self.assertEqual(reference_after_all(inventory, first, path), second)
        same = {one for one, other in zip(first, second) if one == other}
        self.assertFalse([move for move in path if same & set(move[1:])])
        changed = [one for one, other in zip(first, second) if one != other]
        kinds = {kinds_of_items(inventory)[name] for name in changed}
        most = (len(changed) - 1) * (len(kinds) + 1) if changed else 0
        self.assertLessEqual(len(path), most)
        return path

    def test_example(self):
        found = find_path(INV, ["a", "b", "c"], ["b", "c", "a"])
        self.assertTrue(is_same(found, [("segments", "a", "b", "b", "c")]))

    def test_equal_arrangements(self):
        for inventory in ALL:
            for arrangement in arrangements(inventory):
                self.assertTrue(is_same(find_path(inventory, arrangement, list(arrangement)), []))
        chance = random.Random(1)
        for inventory in large_inventories():
            arrangement = random_arrangement(chance, inventory)
            self.assertEqual(find_path(inventory=inventory, first=arrangement, second=list(arrangement)), [])

    def test_one_swap(self):
        first, second = ["a", "c", "d", "b", "e"], ["a", "c", "d", "e", "b"]
        self.assertIn(find_path(MIXED, first, second), ([("swap", "b", "e")], [("swap", "e", "b")]))

    def test_all_pairs_of_small_inventories(self):
        for inventory in ALL:
            found = arrangements(inventory)
            for first, second in itertools.product(found, repeat=2):
                self.check_guarantees(inventory, first, second)

    def test_items_of_other_kinds_that_have_to_move_first(self):
        # The two items of kind k are below each other, and no third one is there to change with.
        found = arrangements(TIGHT)
        pairs = [pair for pair in itertools.permutations(found, 2) if pair[0][0] != pair[1][0]]
        self.assertEqual(len(pairs), 32)
        paths = [self.check_guarantees(TIGHT, first, second) for first, second in pairs]
        words = {move[0] for path in paths for move in path}
        self.assertEqual(words, {"segments", "swap"})

    def test_pairs_of_large_inventories(self):
        chance = random.Random(2)
        for inventory in large_inventories():
            some = [random_arrangement(chance, inventory) for _ in range(4)]
            for first, second in itertools.permutations(some, 2):
                self.check_guarantees(inventory, first, second)

    def test_pairs_that_are_a_few_moves_apart(self):
        chance = random.Random(3)
        for inventory in ALL + large_inventories():
            first = random_arrangement(chance, inventory)
            for count in range(1, 7):
                second = reference_after_all(inventory, first, random_walk(chance, inventory, first, count))
                self.check_guarantees(inventory, first, second)
                self.check_guarantees(inventory, second, first)

    def test_pairs_of_inventories_with_few_items_of_some_kinds(self):
        chance = random.Random(4)
        for _ in range(250):
            kinds = "".join(kind * chance.choice((1, 1, 2, 5)) for kind in "kmnpqr"[:chance.randint(1, 6)])
            inventory = grown_inventory(chance, chance.randint(2, 24), kinds, chance.choice((0, 0.5, 0.8, 1)))
            first, second = random_arrangement(chance, inventory), random_arrangement(chance, inventory)
            self.check_guarantees(inventory, first, second)
            self.check_guarantees(inventory, second, first)

    def test_deep_paths_turned_around(self):
        inventory = chain_inventory(24)
        names = [item[0] for item in inventory[1]]
        slots = list_slots(inventory)
        for order in (names[22::-1], names[1:23] + names[:1], names[11:23] + names[:11], names[:3] + names[22:2:-1]):
            chain = order + names[23:]
            below = dict(zip([""] + chain, chain))
            second = [below[owner] for owner, _ in slots]
            self.check_guarantees(inventory, names, second)
            self.check_guarantees(inventory, second, names)


def reference_check(inventory, first, second, value, pinned):
    """Return what point 24 says, by its words."""
    slots = list_slots(inventory)
    if type(value) is not tuple or len(value) != 2 or type(value[0]) is not str or value[0] not in ("moves", "pinned"):
        return ("answer",)
    if value[0] == "pinned":
        differing = [slots[k] for k in range(len(slots)) if first[k] != second[k] and slots[k] in pinned]
        return None if any(is_same(value[1], slot) for slot in differing) else ("slot",)
    if type(value[1]) is not list or len(value[1]) > 500:
        return ("invalid", ("moves",))
    touched = []
    arrangement = first
    for k, move in enumerate(value[1]):
        reason = reference_move_error(inventory, arrangement, move)
        if reason is not None:
            return ("invalid", ("move", k, reason))
        if any(slots[arrangement.index(name)] in pinned for name in move[1:]):
            touched.append(k)
        arrangement = reference_after(inventory, arrangement, move)
    if touched:
        return ("touched", touched[0])
    return None if arrangement == second else ("target",)


class CheckPathTest(unittest.TestCase):

    first = ["a", "c", "d", "b", "e"]
    second = ["a", "c", "d", "e", "b"]
    there = ("swap", "b", "e")

    def check(self, value, expected, pinned=(), inventory=MIXED, first=None, second=None):
        first, second = first or self.first, second or self.second
        found = check_path(inventory, first, second, value, pinned=pinned)
        self.assertTrue(is_same(found, expected), (value, found, expected))
        self.assertTrue(is_same(reference_check(inventory, first, second, value, pinned), expected), expected)

    def check_as_reference(self, inventory, first, second, value, pinned):
        found = check_path(inventory, first, second, value, pinned=pinned)
        expected = reference_check(inventory, first, second, value, pinned)
        self.assertTrue(is_same(found, expected), (value, found, expected))

    def test_example(self):
        found = check_path(INV, ["a", "b", "c"], ["b", "c", "a"], ("moves", []))
        self.assertTrue(is_same(found, ("target",)))

    def test_moves(self):
        self.check(("moves", [self.there]), None)
        self.check(("moves", [("swap", "e", "b")]), None)
        self.check(("moves", [self.there] * 3), None)
        self.check(("moves", [self.there] * 499), None)
        self.check(("moves", []), ("target",))
        self.check(("moves", [self.there] * 500), ("target",))
        self.check(("moves", [self.there] * 501), ("invalid", ("moves",)))
        self.check(("moves", []), None, second=self.first)

    def test_wrong_answers(self):
        good = ("moves", [self.there])
        for value in (
            list(good), good + (None,), good[:1], good[1:], (), [], None, "moves", ("move", good[1]),
            ("Moves", good[1]), (good,), [self.there], (good[1], "moves"), (None, []), (True, []), (("moves",), []),
            (["moves"], []), HUGE,
            ["pinned", ("", 0)], ("pin", ("", 0)), ("pinned",), ("pinned", "", 0), {},
        ):
            self.check(value, ("answer",))
        for value in values_of_every_sort():
            self.check(value, ("answer",))
            self.check((value, []), ("answer",))
            self.check(("moves", []) + (value,), ("answer",))

    def test_invalid_moves(self):
        for value in values_of_every_sort():
            if type(value) is not list:
                self.check(("moves", value), ("invalid", ("moves",)))
            self.check(("moves", [value]), ("invalid", ("move", 0, ("move",))))
            self.check(("moves", [self.there, value]), ("invalid", ("move", 1, ("move",))))
        self.check(("moves", (self.there,)), ("invalid", ("moves",)))
        self.check(("moves", [self.there, ("swap", "a", "c")]), ("invalid", ("move", 1, ("kinds",))))
        self.check(("moves", [self.there, ("swap", "a", "e")]), ("invalid", ("move", 1, ("position",))))

    def test_touched_slots(self):
        moves = ("moves", [self.there])
        for slot in (("a", 1), ("c", 0)):
            self.check(moves, ("touched", 0), [slot])
            self.check(moves, ("touched", 0), (slot,))
        self.check(moves, None, [("", 0), ("", 1), ("a", 0)])
        self.check(moves, ("touched", 0), [("", 0), ("", 1), ("a", 0), ("c", 0)])

    def test_touched_slots_that_get_their_items_back(self):
        away = ("swap", "c", "d")
        self.check(("moves", [away, away, self.there]), ("touched", 0), [("", 1)])
        self.check(("moves", [away, away, self.there]), ("touched", 0), [("a", 0)])
        self.check(("moves", [self.there, away, away]), ("touched", 1), [("a", 0)])
        self.check(("moves", [self.there, away, away]), None, [("", 0)])
        self.check(("moves", [self.there, self.there]), ("touched", 0), [("c", 0)], second=self.first)
        chain = chain_inventory(4)
        one, other = ("segments", "b", "c", "c", "d"), ("segments", "c", "b", "b", "d")
        self.check(("moves", [one, other]), None, [("", 0)], chain, list("abcd"), list("abcd"))
        self.check(("moves", [one, other]), ("touched", 0), [("a", 0)], chain, list("abcd"), list("abcd"))
        # The slot of c holds d, which the move names, and the slot of d does not exist.
        self.check(("moves", [one, other]), ("touched", 0), [("c", 0)], chain, list("abcd"), list("abcd"))

    def test_items_with_the_words_of_moves_as_names(self):
        inventory = (("k", "k", "k", "k"), [(name, "k", ()) for name in ("a", "b", "segments", "swap")])
        first, second = ["a", "b", "segments", "swap"], ["b", "a", "segments", "swap"]
        moves = ("moves", [("swap", "a", "b")])
        self.check(moves, None, [("", 2), ("", 3)], inventory, first, second)
        self.check(moves, ("touched", 0), [("", 1), ("", 3)], inventory, first, second)
        self.check(("moves", [("swap", "swap", "segments")]), ("touched", 0), [("", 3)], inventory, first, second)
        for end in (second, ["swap", "segments", "b", "a"], ["segments", "a", "b", "swap"]):
            self.assertIsNone(check_path(inventory, first, end, ("moves", find_path(inventory, first, end))))

    def test_pinned_slots_as_answers(self):
        self.check(("pinned", ("a", 1)), None, [("a", 1)])
        self.check(("pinned", ("a", 1)), None, (("a", 1), ("c", 0)))
        self.check(("pinned", ("c", 0)), None, [("a", 1), ("c", 0)])
        self.check(("pinned", ("a", 1)), ("slot",))
        self.check(("pinned", ("a", 1)), ("slot",), [("c", 0)])
        self.check(("pinned", ("", 0)), ("slot",), [("", 0), ("a", 1)])
        self.check(("pinned", ("a", 1)), ("slot",), [("a", 1)], second=self.first)
        for value in (
            ["a", 1], ("a", True), ("a", 2), ("a",), ("a", 1, 0), ("zz", 0), "a", (("a", 1),), [("a", 1)], None,
            ("a", -1), ("a", HUGE), ("c", False),
        ):
            self.check(("pinned", value), ("slot",), [("a", 1), ("c", 0)])
        for value in values_of_every_sort():
            self.check(("pinned", value), ("slot",), [("a", 1), ("c", 0)])
        self.check(("pinned", ("", False)), ("slot",), [("", 0)], INV, ["a", "b", "c"], ["b", "c", "a"])
        self.check(("pinned", ("", 0)), None, [("", 0)], INV, ["a", "b", "c"], ["b", "c", "a"])

    def test_order_of_reasons(self):
        pinned = [("", 1), ("a", 1)]
        wrong = ("swap", "a", "c")
        self.check(("moves", [self.there, wrong]), ("invalid", ("move", 1, ("kinds",))), pinned)
        self.check(("moves", [self.there] * 501), ("invalid", ("moves",)), pinned)
        self.check(("moves", [self.there, self.there]), ("touched", 0), pinned)
        self.check(("moves", [("swap", "a", "e")]), ("target",), pinned)
        self.check(("moves", []), ("target",), pinned)
        self.check(("moves", ("a", 1)), ("invalid", ("moves",)), pinned)
        self.check(("pinned", [self.there]), ("slot",), pinned)

    def test_found_paths_are_right_answers(self):
        chance = random.Random(5)
        for inventory in ALL + large_inventories():
            slots = list_slots(inventory)
            first, second = random_arrangement(chance, inventory), random_arrangement(chance, inventory)
            path = find_path(inventory, first, second)
            same = [slot for slot, one, other in zip(slots, first, second) if one == other]
            self.assertIsNone(check_path(inventory, first, second, ("moves", path), pinned=same))
            for slot in slots:
                expected = ("slot",) if slot in same else None
                self.assertEqual(check_path(inventory, first, second, ("pinned", slot), pinned=slots), expected)

    def test_all_pairs_of_small_inventories(self):
        chance = random.Random(6)
        for inventory in FEW[:7] + LARGER[1:4]:
            slots = list_slots(inventory)
            found = arrangements(inventory)
            for first, second in itertools.product(found, repeat=2):
                values = [("pinned", slot) for slot in slots + [("zz", 0)]] + [("moves", [])]
                for move in moves_that_apply(inventory, first):
                    values += [("moves", [move]), ("moves", [move, move])]
                values.append(("moves", random_walk(chance, inventory, first, 4)))
                for value in values:
                    self.check_as_reference(inventory, first, second, value, ())
                    pinned = sorted(chance.sample(slots, chance.randint(0, len(slots))))
                    self.check_as_reference(inventory, first, second, value, pinned)

    def test_walks_in_large_inventories(self):
        chance = random.Random(7)
        for inventory in large_inventories():
            slots = list_slots(inventory)
            first = random_arrangement(chance, inventory)
            moves = random_walk(chance, inventory, first, 8)
            second = reference_after_all(inventory, first, moves)
            for count in (0, 1, 2, 4):
                pinned = sorted(chance.sample(slots, min(count, len(slots))))
                self.check_as_reference(inventory, first, second, ("moves", moves), pinned)
                self.check_as_reference(inventory, first, second, ("moves", moves[:-1]), pinned)
                self.check_as_reference(inventory, first, second, ("moves", moves + [nested(False, 100)]), pinned)
            self.assertIsNone(moves_error(inventory, first, moves))

    def test_arguments_by_keyword(self):
        keywords = {"inventory": MIXED, "first": self.first, "second": self.second}
        self.assertIsNone(check_path(value=("moves", [self.there]), pinned=[("", 0)], **keywords))
        self.assertEqual(check_path(pinned=[("a", 1)], value=("moves", [self.there]), **keywords), ("touched", 0))
        self.assertEqual(find_path(**keywords), find_path(MIXED, self.first, self.second))


if __name__ == "__main__":
    unittest.main()
