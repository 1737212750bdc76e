"""Tests of likeholes/moves.py: points 15 to 21."""

import itertools
import random
import unittest

from likeholes.inventories import list_slots
from likeholes.moves import (
    MAX_MOVES, apply_moves, first_move, has_even_swaps, move_error, moves_error, reverse_moves,
)
from tests.references import (
    arrangements, moves_that_apply, reference_after, reference_after_all, reference_arrangement_error,
    reference_first_move, reference_move_error, reference_reverse,
)
from tests.samples import LARGER, MIXED, SMALL, large_inventories, random_arrangement, random_walk
from tests.values import HUGE, INV, chain_inventory, is_same, nested, values_of_every_sort

# Four items on one path, and d and e beside it.
PATH = (
    ("k",),
    [("a", "k", ("m", "m")), ("b", "m", ("k",)), ("c", "k", ("m",)), ("d", "m", ("k",)), ("e", "k", ()),
     ("f", "m", ())],
)
ON_PATH = ["a", "b", "d", "c", "f", "e"]
FEW = [inventory for inventory in SMALL if arrangements(inventory)]
ALL = FEW + LARGER + [PATH]


def names_of(inventory):
    return [item[0] for item in inventory[1]]


def subsets(entries):
    return [list(some) for count in range(len(entries) + 1) for some in itertools.combinations(entries, count)]


class MoveErrorTest(unittest.TestCase):

    def check(self, inventory, arrangement, value, expected):
        self.assertTrue(is_same(move_error(inventory, arrangement, value), expected), (value, expected))

    def test_example(self):
        self.assertEqual(move_error(INV, ["a", "b", "c"], ("swap", "a", "b")), ("position",))

    def test_swaps(self):
        self.check(MIXED, ["a", "c", "d", "b", "e"], ("swap", "b", "e"), None)
        self.check(MIXED, ["a", "c", "d", "b", "e"], ("swap", "e", "b"), None)
        self.check(MIXED, ["a", "c", "d", "b", "e"], ("swap", "a", "e"), None)
        self.check(MIXED, ["a", "c", "d", "b", "e"], ("swap", "a", "b"), ("position",))
        self.check(MIXED, ["a", "c", "d", "b", "e"], ("swap", "b", "a"), ("position",))
        self.check(MIXED, ["a", "c", "d", "b", "e"], ("swap", "b", "c"), ("kinds",))
        self.assertIsNone(move_error(inventory=MIXED, arrangement=["a", "c", "d", "b", "e"], value=("swap", "c", "d")))

    def test_segment_swaps(self):
        self.check(INV, ["a", "b", "c"], ("segments", "a", "b", "b", "c"), None)
        self.check(INV, ["b", "c", "a"], ("segments", "b", "a", "a", "c"), None)
        self.check(INV, ["b", "c", "a"], ("segments", "a", "b", "b", "c"), ("position",))
        self.assertIsNone(reference_arrangement_error(PATH, ON_PATH))
        self.check(PATH, ON_PATH, ("segments", "a", "b", "c", "f"), None)
        self.check(PATH, ON_PATH, ("segments", "a", "d", "e", "f"), ("position",))
        self.check(PATH, ON_PATH, ("segments", "a", "b", "e", "f"), ("position",))
        self.check(PATH, ON_PATH, ("segments", "c", "f", "a", "b"), ("position",))
        self.check(PATH, ON_PATH, ("segments", "a", "c", "b", "f"), ("kinds",))
        self.check(PATH, ON_PATH, ("segments", "a", "b", "c", "e"), ("kinds",))
        self.check(PATH, ON_PATH, ("segments", "a", "b", "b", "f"), ("kinds",))

    def test_order_of_reasons(self):
        arrangement = ["a", "c", "d", "b", "e"]
        # d is of another kind than a and below it.
        self.check(MIXED, arrangement, ("swap", "a", "d"), ("kinds",))
        self.check(MIXED, arrangement, ("swap", "a", "a"), ("move",))
        self.check(MIXED, arrangement, ("swap", "a", "z"), ("move",))
        self.check(MIXED, arrangement, ("segments", "a", "b", "b", "a"), ("move",))
        self.check(MIXED, arrangement, ("segments", "a", "c", "c", "b"), ("kinds",))
        self.check(MIXED, arrangement, ("segments", "a", "b", "b", "e"), ("position",))

    def test_repeated_names(self):
        arrangement = list("abcde")
        inventory = chain_inventory(5)
        for names in itertools.product("abc", repeat=4):
            x, v, y, w = names
            is_form = x != v and x != y and x != w and v != w and y != w
            expected = None if names == ("a", "b", "b", "c") else ("position",) if is_form else ("move",)
            self.check(inventory, arrangement, ("segments",) + names, expected)
        for name in "abcde":
            self.check(inventory, arrangement, ("swap", name, name), ("move",))

    def test_words_and_numbers_of_names(self):
        for names in itertools.chain(*[itertools.product("abz", repeat=count) for count in range(6)]):
            for word in ("swap", "segments", "", "Swap", "swaps", "segment", "a", None, 0, True, ("swap",), ["swap"]):
                value = (word,) + names
                self.check(INV, ["a", "b", "c"], value, reference_move_error(INV, ["a", "b", "c"], value))
        for word in ("swap", "segments"):
            for count in range(8):
                value = (word,) + ("a", "b", "b", "c", "a", "b", "c")[:count]
                fits = (word, count) in (("swap", 2), ("segments", 4))
                self.assertEqual(move_error(INV, ["a", "b", "c"], value) == ("move",), not fits)

    def test_items_with_the_words_as_names(self):
        inventory = (("k", "k", "k"), [("a", "k", ()), ("segments", "k", ()), ("swap", "k", ())])
        arrangement = ["a", "segments", "swap"]
        self.check(inventory, arrangement, ("swap", "swap", "segments"), None)
        self.check(inventory, arrangement, ("swap", "a", "swap"), None)
        self.check(inventory, arrangement, ("swap", "swap", "swap"), ("move",))
        self.check(inventory, arrangement, ("segments", "segments", "swap"), ("move",))
        self.check(inventory, arrangement, ("a", "segments", "swap"), ("move",))
        self.assertEqual(first_move(inventory, arrangement, pinned=[("", 0)]), ("swap", "segments", "swap"))
        self.assertEqual(apply_moves(inventory, arrangement, [("swap", "swap", "a")]), ["swap", "segments", "a"])
        self.assertEqual(reverse_moves(inventory, arrangement, [("swap", "swap", "a")]), [("swap", "swap", "a")])

    def test_lists_and_other_wholes(self):
        for value in (
            ["swap", "a", "b"], ["segments", "a", "b", "b", "c"], [("segments", "a", "b", "b", "c")], (), [], "swap",
            (("segments", "a", "b", "b", "c"),), ("segments", ("a", "b", "b", "c")), ("segments", ["a", "b", "b", "c"]),
            ("swap", "ab"), "segments", None, 5, HUGE, {}, nested(True, 100),
        ):
            self.check(INV, ["a", "b", "c"], value, ("move",))

    def test_other_values_in_every_place(self):
        for good in (("segments", "a", "b", "c", "f"), ("swap", "c", "e")):
            self.check(PATH, ON_PATH, good, None)
            for value in values_of_every_sort():
                self.check(PATH, ON_PATH, value, ("move",))
                self.check(PATH, ON_PATH, good + (value,), ("move",))
                for k in range(len(good)):
                    changed = good[:k] + (value,) + good[k + 1:]
                    self.check(PATH, ON_PATH, changed, reference_move_error(PATH, ON_PATH, changed))
                    self.check(PATH, ON_PATH, list(changed), ("move",))

    def test_all_pairs_and_quadruples(self):
        for inventory in ALL:
            names = names_of(inventory) + ["z"] * (len(inventory[1]) < 5)
            values = [("swap",) + some for some in itertools.product(names, repeat=2)]
            values += [("segments",) + some for some in itertools.product(names, repeat=4)]
            for arrangement in arrangements(inventory):
                for value in values:
                    self.check(inventory, arrangement, value, reference_move_error(inventory, arrangement, value))

    def test_large_inventories(self):
        chance = random.Random(2)
        for inventory in large_inventories():
            arrangement = random_arrangement(chance, inventory)
            names = names_of(inventory)
            for _ in range(60):
                value = ("swap",) + tuple(chance.sample(names, 2))
                self.check(inventory, arrangement, value, reference_move_error(inventory, arrangement, value))
                value = ("segments",) + tuple(chance.sample(names, 4))
                self.check(inventory, arrangement, value, reference_move_error(inventory, arrangement, value))
        names = names_of(chain_inventory(24))
        for chosen in itertools.combinations(range(0, 24, 2), 4):
            self.check(chain_inventory(24), names, ("segments",) + tuple(names[k] for k in chosen), None)


class EffectTest(unittest.TestCase):

    def check_effect(self, inventory, arrangement, move):
        result = apply_moves(inventory, arrangement, [move])
        self.assertEqual(result, reference_after(inventory, arrangement, move))
        self.assertIsNone(reference_arrangement_error(inventory, result))
        changed = {name for name in arrangement if arrangement.index(name) != result.index(name)}
        self.assertEqual(changed, set(move[1:]))

    def test_swap(self):
        self.assertEqual(apply_moves(MIXED, ["a", "c", "d", "b", "e"], [("swap", "a", "e")]), ["e", "c", "d", "b", "a"])

    def test_segment_swap_with_a_middle(self):
        # a > b > c > f becomes c > b > a > f, and d stays with a, where e is below it.
        found = apply_moves(PATH, ON_PATH, [("segments", "a", "b", "c", "f")])
        self.assertEqual(found, ["c", "f", "d", "a", "b", "e"])

    def test_segment_swap_without_a_middle(self):
        inventory = chain_inventory(6)
        found = apply_moves(inventory, list("abcdef"), [("segments", "b", "d", "d", "f")])
        # b > c > d > e > f becomes d > e > b > c > f.
        self.assertEqual(found, ["a", "d", "c", "f", "e", "b"])

    def test_all_moves_of_small_inventories(self):
        for inventory in ALL:
            for arrangement in arrangements(inventory):
                for move in moves_that_apply(inventory, arrangement):
                    self.check_effect(inventory, arrangement, move)

    def test_moves_of_large_inventories(self):
        chance = random.Random(3)
        for inventory in large_inventories():
            arrangement = random_arrangement(chance, inventory)
            for move in random_walk(chance, inventory, arrangement, 12):
                self.check_effect(inventory, arrangement, move)
                arrangement = reference_after(inventory, arrangement, move)


class MoveListTest(unittest.TestCase):

    there = ("segments", "a", "b", "b", "c")
    back = ("segments", "b", "a", "a", "c")

    def check(self, value, expected, inventory=INV, arrangement=("a", "b", "c")):
        self.assertTrue(is_same(moves_error(inventory, list(arrangement), value), expected), expected)

    def test_examples(self):
        moves = [("segments", "a", "b", "b", "c"), ("swap", "a", "b")]
        self.assertEqual(moves_error(INV, ["a", "b", "c"], moves), ("move", 1, ("position",)))
        self.assertEqual(apply_moves(INV, ["a", "b", "c"], moves[:1]), ["b", "c", "a"])
        self.assertEqual(reverse_moves(INV, ["a", "b", "c"], moves[:1]), [("segments", "b", "a", "a", "c")])

    def test_limit(self):
        self.assertTrue(is_same(MAX_MOVES, 500))
        moves = [self.there, self.back] * 250
        self.check([], None)
        self.check(moves[:499], None)
        self.check(moves, None)
        self.check(moves + [self.there], ("moves",))
        self.check([None] * 501, ("moves",))
        self.check([None] * 500, ("move", 0, ("move",)))
        self.check(moves[:499] + [self.there], ("move", 499, ("position",)))
        self.assertEqual(apply_moves(INV, ["a", "b", "c"], []), ["a", "b", "c"])
        self.assertEqual(apply_moves(INV, ["a", "b", "c"], moves), ["a", "b", "c"])
        self.assertEqual(apply_moves(INV, ["a", "b", "c"], moves[:499]), ["b", "c", "a"])
        self.assertEqual(reverse_moves(INV, ["a", "b", "c"], []), [])
        self.assertEqual(reverse_moves(INV, ["a", "b", "c"], moves), moves)
        self.assertEqual(reverse_moves(INV, ["a", "b", "c"], moves[:499]), [self.back] + [self.there, self.back] * 249)

    def test_other_wholes(self):
        for value in values_of_every_sort():
            expected = reference_moves_error(INV, ["a", "b", "c"], value)
            self.check(value, expected)
            self.check((value,), ("moves",))
            self.check([value], ("move", 0, ("move",)))
            self.check([self.there, value], ("move", 1, ("move",)))
        self.check((), ("moves",))
        self.check((self.there,), ("moves",))
        self.check(self.there, ("moves",))
        self.check({}, ("moves",))
        self.check("", ("moves",))

    def test_least_index_and_reasons(self):
        good = [self.there, self.back] * 3
        for k in range(6):
            self.check(good[:k] + [("swap", "a", "b")] + good[k:], ("move", k, ("position",)))
            self.check(good[:k] + [good[k], good[k]], ("move", k + 1, ("position",)))
            self.check(good[:k] + [("swap", "a", "a"), None], ("move", k, ("move",)))
            self.check(good[:k] + [None, ("swap", "a", "a")], ("move", k, ("move",)))
        arrangement = ["a", "c", "d", "b", "e"]
        self.check([("swap", "b", "e"), ("swap", "a", "c")], ("move", 1, ("kinds",)), MIXED, arrangement)
        # b is below a at first, and applies only after the move before it, or only before.
        self.check([("swap", "b", "e"), ("swap", "a", "b")], None, MIXED, arrangement)
        self.check([("swap", "a", "b")], ("move", 0, ("position",)), MIXED, arrangement)
        self.check([("swap", "a", "e"), ("swap", "b", "e")], None, MIXED, ["a", "c", "d", "b", "e"])
        self.check([("swap", "b", "e"), ("swap", "a", "e")], ("move", 1, ("position",)), MIXED, arrangement)

    def test_walks(self):
        chance = random.Random(4)
        for inventory in ALL + large_inventories():
            arrangement = random_arrangement(chance, inventory)
            moves = random_walk(chance, inventory, arrangement, 10)
            self.check(moves, None, inventory, arrangement)
            end = reference_after_all(inventory, arrangement, moves)
            self.assertTrue(is_same(apply_moves(inventory, arrangement, moves), end))
            damaged = [moves[k] for k in chance.sample(range(len(moves)), len(moves))]
            self.check(damaged, reference_moves_error(inventory, arrangement, damaged), inventory, arrangement)

    def test_reverse(self):
        chance = random.Random(5)
        for inventory in ALL + large_inventories():
            arrangement = random_arrangement(chance, inventory)
            moves = random_walk(chance, inventory, arrangement, 10)
            end = reference_after_all(inventory, arrangement, moves)
            found = reverse_moves(inventory, arrangement, moves)
            self.assertTrue(is_same(found, [reference_reverse(move) for move in reversed(moves)]))
            self.assertEqual(reference_after_all(inventory, end, found), arrangement)
            self.assertEqual(reverse_moves(inventory, end, found), moves)

    def test_reverse_of_every_move(self):
        for inventory in ALL:
            for arrangement in arrangements(inventory):
                for move in moves_that_apply(inventory, arrangement):
                    found = reverse_moves(inventory, arrangement, [move])
                    self.assertTrue(is_same(found, [reference_reverse(move)]))
                    end = reference_after(inventory, arrangement, move)
                    self.assertEqual(reference_after_all(inventory, end, found), arrangement)

    def test_arguments_by_keyword(self):
        keywords = {"inventory": INV, "arrangement": ["a", "b", "c"]}
        self.assertIsNone(moves_error(value=[self.there], **keywords))
        self.assertEqual(apply_moves(moves=[self.there], **keywords), ["b", "c", "a"])
        self.assertEqual(reverse_moves(moves=[self.there], **keywords), [self.back])


def reference_moves_error(inventory, arrangement, value):
    """Return what point 17 says, by its words."""
    if type(value) is not list or len(value) > 500:
        return ("moves",)
    for k, move in enumerate(value):
        reason = reference_move_error(inventory, arrangement, move)
        if reason is not None:
            return ("move", k, reason)
        arrangement = reference_after(inventory, arrangement, move)
    return None


class HasEvenSwapsTest(unittest.TestCase):

    def test_example(self):
        self.assertIs(has_even_swaps(INV, ["a", "b", "c"], ["b", "c", "a"]), True)

    def test_equal_arrangements(self):
        for inventory in ALL:
            for arrangement in arrangements(inventory):
                self.assertIs(has_even_swaps(inventory, arrangement, list(arrangement)), True)

    def test_one_move(self):
        for inventory in ALL:
            for arrangement in arrangements(inventory):
                for move in moves_that_apply(inventory, arrangement):
                    end = reference_after(inventory, arrangement, move)
                    self.assertIs(has_even_swaps(inventory, arrangement, end), move[0] == "segments")
                    self.assertIs(has_even_swaps(inventory=inventory, first=end, second=arrangement), move[0] != "swap")

    def test_all_pairs(self):
        for inventory in ALL:
            for first in arrangements(inventory):
                for second in arrangements(inventory):
                    places = [second.index(name) for name in first]
                    inversions = sum(one > other for one, other in itertools.combinations(places, 2))
                    self.assertIs(has_even_swaps(inventory, first, second), inversions % 2 == 0)

    def test_lists_of_moves(self):
        chance = random.Random(6)
        for inventory in ALL + large_inventories():
            first = random_arrangement(chance, inventory)
            moves = random_walk(chance, inventory, first, 15)
            for count in range(len(moves) + 1):
                second = reference_after_all(inventory, first, moves[:count])
                swaps = [move for move in moves[:count] if move[0] == "swap"]
                self.assertIs(has_even_swaps(inventory, first, second), len(swaps) % 2 == 0)
                self.assertIs(has_even_swaps(inventory, second, first), len(swaps) % 2 == 0)

    def test_three_arrangements(self):
        chance = random.Random(7)
        for inventory in large_inventories():
            some = [random_arrangement(chance, inventory) for _ in range(3)]
            for first, second, third in itertools.permutations(some):
                parts = has_even_swaps(inventory, first, second) == has_even_swaps(inventory, second, third)
                self.assertIs(has_even_swaps(inventory, first, third), parts)


class FirstMoveTest(unittest.TestCase):

    def test_example(self):
        self.assertIsNone(first_move(INV, ["a", "b", "c"], pinned=[("", 0)]))

    def test_ordinary_moves(self):
        self.assertTrue(is_same(first_move(INV, ["a", "b", "c"]), ("segments", "a", "b", "b", "c")))
        self.assertTrue(is_same(first_move(MIXED, ["a", "c", "d", "b", "e"]), ("swap", "a", "e")))
        # A segment swap comes first, also where its names are greater.
        inventory = (("k", "m"), [("a", "k", ()), ("b", "m", ("k", "m")), ("c", "k", ()), ("d", "m", ("m",)),
                                  ("e", "m", ())])
        self.assertIsNone(reference_arrangement_error(inventory, ["a", "b", "c", "d", "e"]))
        self.assertEqual(first_move(inventory, ["a", "b", "c", "d", "e"]), ("segments", "b", "d", "d", "e"))
        self.assertEqual(first_move(inventory, ["a", "b", "c", "d", "e"], pinned=(("d", 0),)), ("swap", "a", "c"))

    def test_middle_that_is_less_than_the_second_item(self):
        # The item v may be y, or an item of another kind before it in the order of names.
        inventory = (("k",), [("a", "k", ("k",)), ("b", "k", ("k",)), ("c", "k", ("k",)), ("d", "k", ())])
        self.assertEqual(first_move(inventory, ["a", "c", "d", "b"]), ("segments", "a", "b", "b", "d"))
        self.assertEqual(first_move(inventory, ["a", "b", "c", "d"]), ("segments", "a", "b", "b", "c"))
        self.assertEqual(first_move(inventory, ["c", "b", "d", "a"]), ("segments", "a", "b", "b", "d"))
        self.assertEqual(first_move(inventory, ["c", "d", "a", "b"]), ("segments", "b", "a", "a", "d"))

    def test_all_small_arrangements_with_all_pins(self):
        for inventory in ALL:
            slots = list_slots(inventory)
            for arrangement in arrangements(inventory):
                moves = moves_that_apply(inventory, arrangement)
                for pinned in subsets(slots):
                    held = {arrangement[slots.index(slot)] for slot in pinned}
                    loose = [move for move in moves if not held & set(move[1:])]
                    expected = min(loose) if loose else None
                    for pins in (pinned, tuple(pinned)):
                        self.assertTrue(is_same(first_move(inventory, arrangement, pinned=pins), expected))
                self.assertTrue(is_same(first_move(inventory, arrangement), min(moves) if moves else None))
                self.assertIsNone(first_move(inventory, arrangement, pinned=slots))

    def test_no_move_means_no_other_arrangement(self):
        for inventory in ALL:
            slots = list_slots(inventory)
            found = arrangements(inventory)
            for arrangement in found:
                for pinned in subsets(slots):
                    places = [slots.index(slot) for slot in pinned]
                    same = [other for other in found if all(other[k] == arrangement[k] for k in places)]
                    move = first_move(inventory, arrangement, pinned=pinned)
                    self.assertEqual(move is None, same == [arrangement])

    def test_large_inventories(self):
        chance = random.Random(8)
        for inventory in large_inventories():
            slots = list_slots(inventory)
            arrangement = random_arrangement(chance, inventory)
            for count in (0, 4, len(slots) // 2, len(slots) * 5 // 6, len(slots)):
                pinned = sorted(chance.sample(slots, min(count, len(slots))))
                loose = sorted(name for slot, name in zip(slots, arrangement) if slot not in pinned)
                found = first_move(inventory, arrangement, pinned=pinned)
                self.assertTrue(is_same(found, reference_first_move(inventory, arrangement, loose)))


if __name__ == "__main__":
    unittest.main()
