"""Tests of point 2: errors and their order, arguments, results and time."""

import copy
import os
import random
import subprocess
import sys
import time
import unittest

from likeholes import errors
from likeholes.arrangements import ancestors_of, arrangement_error, descendants_of, slot_of
from likeholes.counting import count_arrangements, count_up_to_twins, placement_share, possible_items
from likeholes.forests import Forest
from likeholes.inventories import inventory_error, list_slots, slot_kind, slot_surplus
from likeholes.moves import apply_moves, first_move, has_even_swaps, move_error, moves_error, reverse_moves
from likeholes.paths import check_path, find_path
from likeholes.placements import check_answer, find_arrangement, reachable_kinds
from likeholes.ranking import arrangement_at, index_of
from likeholes.twins import are_equivalent, splits_evenly
from tests.references import arrangements, reference_arrangement_error
from tests.samples import LARGER, MIXED, SPLIT, large_inventories, random_arrangement, random_walk
from tests.values import HUGE, INV, chain_inventory, is_same, nested, values_of_every_sort

SECONDS = 5
GARBAGE = [None, True, HUGE, "a", ["a"], ("", 0), [[], ()], nested(True, 100)]


def calls_with(inventory, first, second, value, option):
    """Return a call of each function that takes an inventory."""
    calls = calls_on_one(inventory, first, value, option) + calls_on_two(inventory, first, second, value, option)
    return calls + calls_with_placements(inventory, value, option) + [
        lambda: list_slots(inventory),
        lambda: slot_kind(inventory, value),
        lambda: slot_surplus(inventory),
        lambda: arrangement_error(inventory, value),
        lambda: count_up_to_twins(inventory),
        lambda: placement_share(inventory, value, value),
        lambda: possible_items(inventory, value),
        lambda: splits_evenly(inventory),
    ]


def calls_with_placements(inventory, value, option):
    """Return a call of each function that takes required placements, but no arrangement."""
    return [
        lambda: reachable_kinds(inventory, required=option),
        lambda: find_arrangement(inventory, required=option),
        lambda: check_answer(inventory, value, required=option),
        lambda: count_arrangements(inventory, required=option),
        lambda: arrangement_at(inventory, value, required=option),
    ]


def calls_on_one(inventory, arrangement, value, option):
    return [
        lambda: slot_of(inventory, arrangement, value),
        lambda: ancestors_of(inventory, arrangement, value),
        lambda: descendants_of(inventory, arrangement, value),
        lambda: index_of(inventory, arrangement, required=option),
        lambda: Forest(inventory, arrangement, pinned=option),
        lambda: move_error(inventory, arrangement, value),
        lambda: moves_error(inventory, arrangement, value),
        lambda: apply_moves(inventory, arrangement, value),
        lambda: reverse_moves(inventory, arrangement, value),
        lambda: first_move(inventory, arrangement, pinned=option),
    ]


def calls_on_two(inventory, first, second, value, option):
    return [
        lambda: has_even_swaps(inventory, first, second),
        lambda: find_path(inventory, first, second),
        lambda: check_path(inventory, first, second, value, pinned=option),
        lambda: are_equivalent(inventory, first, second),
    ]


def good_calls(inventory, first, second, moves):
    """Return pairs of a function and the arguments of a call without an error, the last of which may be an option."""
    slots = list_slots(inventory)
    pins = slots[::2]
    required = [(slot, name) for slot, name in zip(slots, first)][::3]
    found = find_arrangement(inventory, required=required)
    calls = [(move_error, [inventory, first, move]) for move in moves[:1]]
    calls += [
        (moves_error, [inventory, first, moves]),
        (moves_error, [inventory, first, moves + [["swap", ["a"]]]]),
        (apply_moves, [inventory, first, moves]),
        (apply_moves, [inventory, first, []]),
        (reverse_moves, [inventory, first, moves]),
        (has_even_swaps, [inventory, first, second]),
        (first_move, [inventory, first, {"pinned": []}]),
        (first_move, [inventory, first, {"pinned": pins}]),
        (find_path, [inventory, first, second]),
        (find_path, [inventory, first, list(first)]),
        (check_path, [inventory, first, second, ("moves", moves), {"pinned": pins}]),
        (check_path, [inventory, first, second, ("moves", find_path(inventory, first, second)), {"pinned": []}]),
        (check_path, [inventory, first, second, ("pinned", slots[0]), {"pinned": slots}]),
        (check_path, [inventory, first, second, ("moves", [["swap", []]]), {"pinned": pins}]),
        (reachable_kinds, [inventory, {"required": required}]),
        (find_arrangement, [inventory, {"required": required}]),
        (find_arrangement, [inventory, {"required": []}]),
        (find_arrangement, [inventory, {"required": [(slot, first[0]) for slot in slots[:2]]}]),
        (check_answer, [inventory, found, {"required": required}]),
        (check_answer, [inventory, ("impossible", ("cycle", list(first))), {"required": required}]),
        (check_answer, [inventory, ("impossible", ("unreachable", ["k", ["m"]])), {"required": required}]),
    ]
    return calls + good_calls_of_numbers(inventory, first, second, required) + good_calls_of_items(inventory, first)


def good_calls_of_numbers(inventory, first, second, required):
    """Return such pairs for the functions of counting, ranking and twins."""
    slots = list_slots(inventory)
    calls = [
        (count_arrangements, [inventory, {"required": []}]),
        (count_arrangements, [inventory, {"required": required}]),
        (count_arrangements, [inventory, {"required": [(slot, first[0]) for slot in slots[:2]]}]),
        (count_up_to_twins, [inventory]),
        (splits_evenly, [inventory]),
        (are_equivalent, [inventory, first, second]),
        (are_equivalent, [inventory, first, list(first)]),
        (index_of, [inventory, first, {"required": []}]),
        (index_of, [inventory, first, {"required": required}]),
        (placement_share, [inventory, slots[-1], first[-1]]),
        (possible_items, [inventory, slots[-1]]),
    ]
    for placements in ([], required):
        count = count_arrangements(inventory, required=placements)
        for index in sorted({0, count // 3, count - 1}):
            calls.append((arrangement_at, [inventory, index, {"required": placements}]))
    return calls


def good_calls_of_items(inventory, first):
    """Return such pairs for the functions of inventories and arrangements."""
    return [
        (inventory_error, [inventory]),
        (list_slots, [inventory]),
        (slot_kind, [inventory, list_slots(inventory)[-1]]),
        (slot_surplus, [inventory]),
        (slot_surplus, [(inventory[0][:1] * 3, inventory[1])]),
        (arrangement_error, [inventory, first]),
        (slot_of, [inventory, first, first[-1]]),
        (ancestors_of, [inventory, first, first[-1]]),
        (descendants_of, [inventory, first, first[0]]),
    ]


def called(function, arguments):
    if isinstance(arguments[-1], dict):
        return function(*arguments[:-1], **arguments[-1])
    return function(*arguments)


def containers(value):
    """Return all lists and dicts in a value."""
    found = [value] if isinstance(value, (list, dict)) else []
    entries = value.values() if isinstance(value, dict) else value if isinstance(value, (list, tuple)) else []
    for entry in entries:
        found += containers(entry)
    return found


def samples():
    """Return inventories with two arrangements each and some moves from the first one."""
    chance = random.Random(1)
    found = []
    for inventory in [INV, MIXED, *LARGER, *large_inventories()]:
        first, second = random_arrangement(chance, inventory), random_arrangement(chance, inventory)
        found.append((inventory, first, second, random_walk(chance, inventory, first, 5)))
    return found


class ErrorsTest(unittest.TestCase):

    def check_raises(self, name, call, reason=None):
        with self.assertRaises(errors.LikeholesError) as raised:
            call()
        error = raised.exception
        self.assertIs(type(error), getattr(errors, name))
        self.assertIsInstance(error, ValueError)
        own = [other for other in vars(errors).values() if isinstance(other, type) and isinstance(error, other)]
        self.assertEqual({other.__name__ for other in own}, {name, "LikeholesError"})
        if reason is not None:
            self.assertTrue(is_same(error.reason, reason), (error.reason, reason))

    def test_the_inventory_is_checked_first(self):
        bad = [value for value in values_of_every_sort() if inventory_error(value) is not None]
        many = [(name, name, ()) for name in "abcdefg"]
        bad += [
            (("k",), []), ((), INV[1]), (("k",), [("a", "k", ("k",)), ("a", "k", ())]), (("a",), many),
            (["k"], INV[1]), (("k",), tuple(INV[1])), list(INV), INV + ((),),
        ]
        for inventory in bad:
            reason = inventory_error(inventory)
            for other in GARBAGE:
                for call in calls_with(inventory, other, other, other, other):
                    self.check_raises("InvalidInventory", call, reason)

    def test_the_arrangement_comes_next(self):
        short = (("k",), [("a", "k", ("k",)), ("b", "k", ()), ("c", "k", ())])
        bad = [(INV, value) for value in values_of_every_sort()]
        bad += [(INV, ["c", "a", "b"]), (INV, ("a", "b", "c")), (INV, ["a", "a", "c"]), (short, ["a", "b"])]
        for inventory, first in bad:
            reason = reference_arrangement_error(inventory, first)
            for other in GARBAGE:
                for call in calls_on_one(inventory, first, other, other):
                    self.check_raises("InvalidArrangement", call, reason)
                for call in calls_on_two(inventory, first, other, other, other):
                    self.check_raises("InvalidArrangement", call, reason)

    def test_the_second_arrangement_comes_after_the_first(self):
        good = ["a", "b", "c"]
        for second in values_of_every_sort() + [["c", "a", "b"], ("b", "c", "a"), ["b", "c", "b"]]:
            reason = reference_arrangement_error(INV, second)
            for other in GARBAGE:
                for call in calls_on_two(INV, good, second, other, other):
                    self.check_raises("InvalidArrangement", call, reason)
            for call in calls_on_two(INV, ["a", "b", "b"], second, [], []):
                self.check_raises("InvalidArrangement", call, ("slot", 2))

    def test_pinned_slots_come_after_the_arrangements(self):
        first, second = ["a", "c", "d", "b", "e"], ["a", "c", "d", "e", "b"]
        bad = [value for value in values_of_every_sort() if value not in ((), [])]
        bad += [[value] for value in values_of_every_sort() if value not in (("", 0), ("a", 0))]
        bad += [[("", 0), value] for value in values_of_every_sort() if value != ("a", 0)]
        bad += [
            [("", 0), ("", 0)], [("", 1), ("", 0)], [("a", 0), ("", 0)], [("a", 0), ("a", 1), ("a", 1)],
            [("", False)], [("", True)], [("", 0), ("a", True)], [("", 2)], [("a", -1)], [("b", 0)], [("zz", 0)],
            [("", 0, 0)], [["", 0]], [("", "0")], [("", None)], [(0, "")], [("", HUGE)], [("", 0), ["a", 0]], "a", {},
            {("", 0): True}, ("", 0), [(("", 0),)], [("a", 0), ("", 1)], [("a", 0), ("a", 0)], [("", 0), None],
        ]
        for pinned in bad:
            for pins in (pinned, tuple(pinned)) if isinstance(pinned, list) else (pinned,):
                self.check_raises("InvalidPins", lambda: first_move(MIXED, first, pinned=pins))
                self.check_raises("InvalidPins", lambda: Forest(MIXED, first, pinned=pins))
                self.check_raises("InvalidArrangement", lambda: Forest(MIXED, second[:-1], pinned=pins))
                for other in GARBAGE + [("moves", []), ("pinned", ("", 0))]:
                    self.check_raises("InvalidPins", lambda: check_path(MIXED, first, second, other, pinned=pins))
                    self.check_raises("InvalidArrangement", lambda: first_move(MIXED, second[:-1], pinned=pins))
                    self.check_raises(
                        "InvalidArrangement", lambda: check_path(MIXED, first, second[:-1], other, pinned=pins)
                    )

    def test_good_pinned_slots(self):
        first = ["a", "c", "d", "b", "e"]
        slots = list_slots(MIXED)
        for pinned in ([], (), slots, tuple(slots), slots[1::2], [("a", 1)], (("", 0), ("c", 0))):
            first_move(MIXED, first, pinned=pinned)
            self.assertEqual(Forest(MIXED, first, pinned=pinned).pins(), list(pinned))
            self.assertIsNone(check_path(MIXED, first, first, ("moves", []), pinned=pinned))

    def test_moves_come_after_the_arrangement(self):
        there, arrangement = ("segments", "a", "b", "b", "c"), ["a", "b", "c"]
        bad = [value for value in values_of_every_sort() if value != []]
        bad += [[value] for value in values_of_every_sort()] + [[there, value] for value in values_of_every_sort()]
        bad += [(there,), [there, there], [there] * 501, [list(there)], [("swap", "a", "z")], there]
        for moves in bad:
            reason = moves_error(INV, arrangement, moves)
            self.assertIsNotNone(reason)
            self.check_raises("InvalidMoves", lambda: apply_moves(INV, arrangement, moves), reason)
            self.check_raises("InvalidMoves", lambda: reverse_moves(INV, arrangement, moves), reason)

    def test_placements_come_after_the_inventory(self):
        for required in values_of_every_sort():
            if required not in ((), []):
                for value in GARBAGE:
                    for call in calls_with_placements(INV, value, required):
                        self.check_raises("InvalidPlacements", call)
                self.check_raises("InvalidPlacements", lambda: index_of(INV, ["a", "b", "c"], required=required))

    def test_slots_come_after_the_inventory_and_names_after_the_slots(self):
        for value in values_of_every_sort() + [("", True), ("a", False), ("a", 1), ["a", 0]]:
            if not is_same(value, ("a", 0)) and not is_same(value, ("", 0)):
                for name in GARBAGE:
                    self.check_raises("UnknownSlot", lambda: placement_share(INV, value, name))
                self.check_raises("UnknownSlot", lambda: slot_kind(INV, value))
                self.check_raises("UnknownSlot", lambda: possible_items(INV, value))
            if value != "a":
                self.check_raises("UnknownItem", lambda: placement_share(INV, ("a", 0), value))
                for function in (slot_of, ancestors_of, descendants_of):
                    self.check_raises("UnknownItem", lambda: function(INV, ["a", "b", "c"], value))

    def test_indices_and_placements_that_are_not_met(self):
        for value in values_of_every_sort() + [2, -1, -2]:
            if not is_same(value, 0) and not is_same(value, 1):
                self.check_raises("InvalidIndex", lambda: arrangement_at(INV, value))
        for required in ([(("", 0), "b")], [(("", 0), "a"), (("a", 0), "a")], ((("b", 0), "a"),)):
            self.check_raises("PlacementNotMet", lambda: index_of(INV, ["a", "b", "c"], required=required))

    def test_methods_of_a_forest(self):
        forest = Forest(INV, ["a", "b", "c"], pinned=[("", 0)])
        there, back = ["b", "c", "a"], ("segments", "b", "a", "a", "c")
        for value in values_of_every_sort():
            self.check_raises("InvalidMove", lambda: forest.apply(value), ("move",))
            reason = reference_arrangement_error(INV, value)
            self.check_raises("InvalidArrangement", lambda: forest.go_to(value), reason)
            if not is_same(value, ("a", 0)) and not is_same(value, ("", 0)):
                self.check_raises("UnknownSlot", lambda: forest.pin(value))
                self.check_raises("UnknownSlot", lambda: forest.unpin(value))
        self.check_raises("InvalidMove", lambda: forest.apply(back), ("position",))
        self.check_raises("PinnedSlot", lambda: forest.apply(("segments", "a", "b", "b", "c")))
        self.check_raises("PinnedSlot", lambda: forest.go_to(there))
        self.check_raises("NotPinned", lambda: forest.unpin(("a", 0)))
        self.check_raises("NothingToUndo", forest.undo)
        forest.unpin(("", 0))
        forest.go_to(there)
        forest.pin(("b", 0))
        self.check_raises("PinnedSlot", forest.undo)


class ArgumentsAndResultsTest(unittest.TestCase):

    def check(self, function, arguments):
        before = copy.deepcopy(arguments)
        result = called(function, arguments)
        self.assertTrue(is_same(arguments, before))
        kept = copy.deepcopy(result)
        again = called(function, arguments)
        self.assertTrue(is_same(again, kept))
        parts = containers(result) + containers(again) + containers(arguments)
        self.assertEqual(len({id(part) for part in parts}), len(containers(result)) * 2 + len(containers(arguments)))
        for part in containers(result):
            part.clear()
        self.assertTrue(is_same(arguments, before))
        self.assertTrue(is_same(again, kept))
        self.assertTrue(is_same(called(function, arguments), kept))

    def test_functions_on_all_samples(self):
        for inventory, first, second, moves in samples():
            for function, arguments in good_calls(inventory, first, second, moves):
                self.check(function, arguments)

    def test_certificates(self):
        ring = {"required": [(("a", 0), "b"), (("b", 0), "a")]}
        self.check(find_arrangement, [INV, ring])
        self.check(find_arrangement, [SPLIT])
        self.check(check_answer, [INV, ("impossible", ("cycle", ["a", "b"])), ring])
        self.check(check_answer, [SPLIT, ("impossible", ("unreachable", ["m"]))])

    def test_errors(self):
        wrong_options = {"pinned": [["", 0]], "required": [["", [0]]]}
        arguments = [INV, ["a", "b", "c"], [["swap", ["a"]]], ("moves", [[]]), wrong_options]
        before = copy.deepcopy(arguments)
        inventory, first, moves, value, options = arguments
        for call in calls_with(inventory, first, ["c", ["a"]], value, options["pinned"]):
            try:
                call()
            except errors.LikeholesError:
                pass
        self.assertRaises(errors.InvalidMoves, apply_moves, inventory, first, moves)
        self.assertRaises(errors.InvalidPlacements, find_arrangement, inventory, required=options["required"])
        self.assertTrue(is_same(arguments, before))

    def test_predicates(self):
        for inventory, first, second, moves in samples():
            for function, arguments in good_calls(inventory, first, second, moves):
                if function in (has_even_swaps, check_answer, are_equivalent, splits_evenly):
                    self.assertIn(called(function, arguments), (True, False))
                    self.assertIs(type(called(function, arguments)), bool)

    def test_results_can_be_passed_back(self):
        for inventory, first, second, _ in samples():
            path = find_path(inventory, first, second)
            self.assertEqual(apply_moves(inventory, first, path), second)
            self.assertEqual(apply_moves(inventory, second, reverse_moves(inventory, first, path)), first)
            self.assertIs(has_even_swaps(inventory, first, second), len([m for m in path if m[0] == "swap"]) % 2 == 0)
            move = first_move(inventory, first)
            if move is not None:
                self.assertIsNone(move_error(inventory, first, move))
            required = list(zip(list_slots(inventory), first))[1::3]
            answer = find_arrangement(inventory, required=required)
            self.assertIs(check_answer(inventory, answer, required=required), True)


SCRIPT = """
from tests.test_conventions import called, good_calls, samples
for inventory, first, second, moves in samples()[:12]:
    for function, arguments in good_calls(inventory, first, second, moves):
        print(function.__name__, called(function, arguments))
"""


class SameAnswersTest(unittest.TestCase):

    def test_another_order_of_sets_changes_nothing(self):
        printed = set()
        for seed in ("0", "1", "2", "3"):
            environment = {**os.environ, "PYTHONHASHSEED": seed}
            folder = os.path.dirname(os.path.dirname(os.path.abspath(__file__)))
            done = subprocess.run(
                [sys.executable, "-c", SCRIPT], capture_output=True, cwd=folder, env=environment, text=True, check=True
            )
            printed.add(done.stdout)
        self.assertEqual(len(printed), 1)
        self.assertIn("find_path [(", printed.pop())


class TimeTest(unittest.TestCase):

    def check_quick(self, function, arguments):
        start = time.monotonic()
        called(function, arguments)
        self.assertLess(time.monotonic() - start, SECONDS, function.__name__)

    def test_all_functions_on_large_inventories(self):
        for inventory, first, second, moves in samples():
            for function, arguments in good_calls(inventory, first, second, moves):
                self.check_quick(function, arguments)

    def test_long_move_lists(self):
        for inventory, first, second, moves in samples():
            for move in moves[:1]:
                back = reverse_moves(inventory, first, [move])
                for function in (moves_error, apply_moves, reverse_moves):
                    self.check_quick(function, [inventory, first, ([move] + back) * 250])
                for pins in ([], list_slots(inventory)):
                    answer = ("moves", ([move] + back) * 250)
                    self.check_quick(check_path, [inventory, first, second, answer, {"pinned": pins}])

    def test_searches_without_a_result(self):
        # One path, on which nothing can change: every kind occurs once, or every item but one is pinned.
        chain = chain_inventory(24)
        names = [item[0] for item in chain[1]]
        slots = list_slots(chain)
        for count in (0, 21, 22, 23, 24):
            pinned = {"pinned": slots[:count]}
            self.check_quick(first_move, [chain, names, pinned])
            self.assertEqual(first_move(chain, names, **pinned) is None, count > 21)
        kinds = "kmnpqr"
        ladder = (("k",), [(names[i], kinds[i // 4], (kinds[min((i + 1) // 4, 5)],) * (i < 23)) for i in range(24)])
        self.check_quick(first_move, [ladder, names, {"pinned": slots[::2]}])
        self.check_quick(find_arrangement, [ladder])
        self.assertEqual(reachable_kinds(ladder), sorted(kinds))

    def test_many_required_placements_in_cycles(self):
        wide = (("k",) * 4, [(name, "k", ("k",) * 4) for name in "abcdefghijklmnopqrstuvwx"])
        names = [item[0] for item in wide[1]]
        slots = list_slots(wide)
        for step in (1, 5, 7):
            required = [(slot, names[(k * step) % 24]) for k, slot in enumerate(slots)]
            for function in (reachable_kinds, find_arrangement):
                self.check_quick(function, [wide, {"required": required}])
            self.check_quick(check_answer, [wide, ("impossible", ("cycle", names)), {"required": required}])
            self.check_quick(check_answer, [wide, ("impossible", ("unreachable", ["k"])), {"required": required}])

    def test_shares_of_every_slot_and_name(self):
        for inventory in large_inventories()[::4]:
            for slot in list_slots(inventory):
                self.check_quick(possible_items, [inventory, slot])
                for item in inventory[1]:
                    self.check_quick(placement_share, [inventory, slot, item[0]])

    def test_ranking(self):
        chance = random.Random(2)
        for inventory, first, _, _ in samples():
            placements = list(zip(list_slots(inventory), first))
            for required in ([], placements[::4]):
                count = count_arrangements(inventory, required=required)
                for index in sorted({0, count - 1, count // 2, chance.randrange(count)}):
                    self.check_quick(arrangement_at, [inventory, index, {"required": required}])
                    found = arrangement_at(inventory, index, required=required)
                    self.check_quick(index_of, [inventory, found, {"required": required}])

    def test_numbers_of_inventories_with_many_slots(self):
        wide = (("k",) * 4, [(name, "k", ("k",) * 4) for name in "abcdefghijklmnopqrstuvwx"])
        required = [(slot, "abcdefghijklmnopqrstuvwx"[k % 24]) for k, slot in enumerate(list_slots(wide))]
        for placements in ([], required[:40], required):
            self.check_quick(count_arrangements, [wide, {"required": placements}])
            self.assertEqual(count_arrangements(wide, required=placements), 0)
        self.check_quick(possible_items, [wide, ("x", 3)])
        self.check_quick(placement_share, [wide, ("x", 3), "a"])

    def test_forests(self):
        for inventory, first, second, moves in samples():
            self.check_quick(Forest, [inventory, first, {"pinned": list_slots(inventory)}])
            forest = Forest(inventory, first)
            for method in [forest.next_move] + [forest.undo] * len(forest.go_to(second)):
                self.check_quick(lambda told: told(), [method])
            for move in moves:
                self.check_quick(forest.apply, [move])
            self.check_quick(forest.go_to, [first])
            self.assertEqual(forest, Forest(inventory, first))

    def test_arrangements_exist_for_the_samples(self):
        for inventory in LARGER:
            self.assertGreater(len(arrangements(inventory)), 1)


if __name__ == "__main__":
    unittest.main()
