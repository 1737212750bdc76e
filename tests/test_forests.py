"""Tests of likeholes/forests.py: points 38 to 43, with point 2."""

import random
import unittest
from unittest import mock

from likeholes import errors
from likeholes.forests import Forest
from likeholes.inventories import list_slots
from likeholes.paths import find_path
from tests.references import (
    arrangements, reference_after, reference_after_all, reference_arrangement_error, reference_first_move,
    reference_move_error, reference_reverse,
)
from tests.samples import (
    LARGER, MIXED, SIX_KINDS, SMALL, TWINS, large_inventories, random_arrangement, random_move,
)
from tests.values import HUGE, INV, chain_inventory, is_same, nested, values_of_every_sort

FEW = [inventory for inventory in SMALL if arrangements(inventory)]
START = ["a", "b", "c"]
THERE, BACK = ("segments", "a", "b", "b", "c"), ("segments", "b", "a", "a", "c")
CHANGING = ("apply", "undo", "pin", "unpin", "go_to")
METHODS = CHANGING + ("current", "pins", "history", "next_move")


class Refused(Exception):
    """An error that the document asks for: the name of its class, and what it stores."""


class Model:
    """What points 38 to 43 say of a forest, by their words."""

    def __init__(self, inventory, arrangement, pinned):
        self.inventory = inventory
        self.arrangement = list(arrangement)
        self.pinned = set(pinned)
        self.moves = []

    def state(self):
        return self.arrangement, sorted(self.pinned), self.moves

    def content(self):
        return dict(zip(list_slots(self.inventory), self.arrangement))

    def refuse_pinned(self, slots):
        held = [slot for slot in slots if slot in self.pinned]
        if held:
            raise Refused("PinnedSlot", {"slot": min(held)})

    def refuse_unknown(self, slot):
        if not any(is_same(slot, known) for known in list_slots(self.inventory)):
            raise Refused("UnknownSlot", {})

    def apply(self, move):
        reason = reference_move_error(self.inventory, self.arrangement, move)
        if reason is not None:
            raise Refused("InvalidMove", {"reason": reason})
        self.refuse_pinned([slot for slot, name in self.content().items() if name in move[1:]])
        self.arrangement = reference_after(self.inventory, self.arrangement, move)
        self.moves = self.moves + [move]

    def undo(self):
        if not self.moves:
            raise Refused("NothingToUndo", {})
        move = self.moves[-1]
        self.refuse_pinned([slot for slot, name in self.content().items() if name in move[1:]])
        self.arrangement = reference_after(self.inventory, self.arrangement, reference_reverse(move))
        self.moves = self.moves[:-1]

    def pin(self, slot):
        self.refuse_unknown(slot)
        self.pinned = self.pinned | {slot}

    def unpin(self, slot):
        self.refuse_unknown(slot)
        if slot not in self.pinned:
            raise Refused("NotPinned", {})
        self.pinned = self.pinned - {slot}

    def go_to(self, target):
        reason = reference_arrangement_error(self.inventory, target)
        if reason is not None:
            raise Refused("InvalidArrangement", {"reason": reason})
        pairs = zip(self.content().items(), target)
        self.refuse_pinned([slot for (slot, name), other in pairs if name != other])
        path = find_path(self.inventory, self.arrangement, target)
        self.arrangement = reference_after_all(self.inventory, self.arrangement, path)
        self.moves = self.moves + path
        return path

    def next_move(self):
        loose = sorted(name for slot, name in self.content().items() if slot not in self.pinned)
        return reference_first_move(self.inventory, self.arrangement, loose)

    def current(self):
        return list(self.arrangement)

    def pins(self):
        return sorted(self.pinned)

    def history(self):
        return list(self.moves)


def answer_of(thing, method, arguments):
    """Return what the method returns, or the name of the error that it raises and what this stores."""
    try:
        return ["returned", getattr(thing, method)(*arguments)]
    except Refused as refused:
        return ["raised", *refused.args]
    except errors.LikeholesError as error:
        return ["raised", type(error).__name__, vars(error)]


def state_of(forest):
    return forest.current(), forest.pins(), forest.history()


class Sequences(unittest.TestCase):

    def check_step(self, forest, model, method, arguments):
        expected = answer_of(model, method, arguments)
        self.assertTrue(is_same(answer_of(forest, method, arguments), expected), (method, arguments, expected))
        self.assertTrue(is_same(state_of(forest), model.state()))
        self.assertTrue(is_same(len(forest), len(model.moves)))
        return expected[0] if expected[0] == "returned" else expected[1]

    def random_step(self, chance, model, values):
        """Return a method and its arguments, which are often such that the call succeeds."""
        method = chance.choice(METHODS + CHANGING + ("apply", "apply"))
        if method not in ("apply", "pin", "unpin", "go_to"):
            return method, []
        if chance.random() < 0.1:
            return method, [chance.choice(values)]
        if method in ("pin", "unpin"):
            known = sorted(model.pinned) if method == "unpin" and chance.random() < 0.8 else []
            return method, [chance.choice(known or list_slots(model.inventory))]
        if method == "apply":
            move = random_move(chance, model.inventory, model.arrangement)
            names = [chance.choice(model.arrangement) for _ in range(chance.choice((2, 4)))]
            good = move is not None and chance.random() < 0.8
            return method, [move if good else ("swap" if len(names) == 2 else "segments", *names)]
        return method, [self.random_target(chance, model)]

    def random_target(self, chance, model):
        """Return an arrangement, a near one or any other, which is sometimes damaged."""
        move = random_move(chance, model.inventory, model.arrangement)
        if move is not None and chance.random() < 0.6:
            target = reference_after(model.inventory, model.arrangement, move)
        else:
            target = random_arrangement(chance, model.inventory)
        return chance.sample(target, len(target)) if chance.random() < 0.15 else target

    def walk(self, chance, inventory, count):
        arrangement = random_arrangement(chance, inventory)
        slots = list_slots(inventory)
        pinned = sorted(chance.sample(slots, chance.choice((0, 0, min(2, len(slots))))))
        forest = Forest(inventory, arrangement, pinned=pinned)
        model = Model(inventory, arrangement, pinned)
        told = set()
        values = values_of_every_sort() + [("", True), ("", 7), ("swap", "a", "a"), arrangement]
        for _ in range(count):
            method, arguments = self.random_step(chance, model, values)
            told.add((method, self.check_step(forest, model, method, arguments)))
            if chance.random() < 0.1:
                self.check_step(forest, model, "next_move", [])
        self.assertEqual(forest, Forest(inventory, model.arrangement, pinned=sorted(model.pinned)))
        return told


class SequencesTest(Sequences):

    def test_small_inventories(self):
        chance = random.Random(1)
        told = set()
        for inventory in FEW + LARGER + TWINS + SIX_KINDS:
            for _ in range(3):
                told |= self.walk(chance, inventory, 100)
        # Every method returned, and raised each of its errors.
        self.assertEqual(told, {(method, "returned") for method in METHODS} | {
            ("apply", "InvalidMove"), ("apply", "PinnedSlot"), ("undo", "NothingToUndo"), ("undo", "PinnedSlot"),
            ("pin", "UnknownSlot"), ("unpin", "UnknownSlot"), ("unpin", "NotPinned"), ("go_to", "InvalidArrangement"),
            ("go_to", "PinnedSlot"),
        })

    def test_large_inventories(self):
        chance = random.Random(2)
        for inventory in large_inventories():
            self.walk(chance, inventory, 40)

    def test_long_sequence(self):
        chance = random.Random(3)
        self.walk(chance, MIXED, 1500)

    def test_every_method_with_other_values(self):
        for inventory, arrangement, pinned in (
            (INV, START, []), (INV, START, [("", 0)]), (MIXED, ["a", "c", "d", "b", "e"], [("", 1), ("a", 1)]),
        ):
            forest, model = Forest(inventory, arrangement, pinned=pinned), Model(inventory, arrangement, pinned)
            for value in values_of_every_sort() + [["c", "a", "b"], [THERE], list(THERE), ("", False), ("a", True)]:
                for method in ("apply", "unpin", "go_to", "pin"):
                    self.check_step(forest, model, method, [value])

    def test_histories_of_more_than_500_moves(self):
        forest, model = Forest(INV, START), Model(INV, START, [])
        for _ in range(300):
            self.check_step(forest, model, "apply", [THERE])
            self.check_step(forest, model, "go_to", [START])
        self.assertEqual(len(forest), 600)
        self.check_step(forest, model, "apply", [THERE])
        self.assertTrue(is_same(forest.history(), [THERE, BACK] * 300 + [THERE]))
        self.check_step(forest, model, "go_to", [["b", "c", "a"]])
        for count in range(601, 0, -1):
            self.assertEqual(len(forest), count)
            self.check_step(forest, model, "undo", [])
        self.check_step(forest, model, "undo", [])
        self.assertEqual(state_of(forest), (START, [], []))


class ForestTest(unittest.TestCase):

    def check_raises(self, forest, method, argument, name, **stored):
        before = state_of(forest)
        with self.assertRaises(getattr(errors, name)) as raised:
            getattr(forest, method)(*argument)
        self.assertIs(type(raised.exception), getattr(errors, name))
        self.assertTrue(is_same(vars(raised.exception), stored))
        self.assertTrue(is_same(state_of(forest), before))

    def test_examples(self):
        self.assertEqual(len(Forest(INV, START)), 0)
        self.assertEqual(Forest(INV, START).next_move(), THERE)
        forest = Forest(INV, START)
        self.assertIsNone(forest.apply(THERE))
        self.assertEqual(forest.current(), ["b", "c", "a"])
        self.assertIsNone(forest.undo())
        self.assertEqual([forest.current(), forest.history()], [START, []])
        self.assertIsNone(forest.pin(("", 0)))
        self.check_raises(forest, "apply", [THERE], "PinnedSlot", slot=("", 0))
        self.assertIsNone(forest.unpin(("", 0)))
        self.assertEqual(forest.go_to(["b", "c", "a"]), [THERE])

    def test_creation(self):
        forest = Forest(INV, START)
        self.assertTrue(is_same(state_of(forest), (START, [], [])))
        slots = list_slots(MIXED)
        for pinned in ([], (), slots, tuple(slots), [("a", 1)], (("", 0), ("c", 0))):
            forest = Forest(MIXED, ["a", "c", "d", "b", "e"], pinned=pinned)
            self.assertTrue(is_same(state_of(forest), (["a", "c", "d", "b", "e"], list(pinned), [])))
        self.assertIsInstance(forest, Forest)

    def test_wrong_arguments_of_the_class(self):
        values = values_of_every_sort()
        for value in values:
            with self.assertRaises(errors.InvalidInventory):
                Forest(value, value, pinned=value)
            with self.assertRaises(errors.InvalidInventory):
                Forest(value, START)
            for other in (value, [], [("", 0)]):
                with self.assertRaises(errors.InvalidArrangement) as raised:
                    Forest(INV, value, pinned=other)
                self.assertTrue(is_same(raised.exception.reason, reference_arrangement_error(INV, value)))
            if value not in ([], ()):
                with self.assertRaises(errors.InvalidPins):
                    Forest(INV, START, pinned=value)
            with self.assertRaises(errors.InvalidPins):
                Forest(INV, START, pinned=[("", 0), value] if value != ("a", 0) else None)
        for pinned in (
            [("a", 0), ("", 0)], (("", 0), ("", 0)), [("", False)], [("", True)], [("c", 0)], [["", 0]], ("", 0),
            [("", 0), ("z", 0)], "a", {}, {("", 0): True}, [("", 1)],
        ):
            with self.assertRaises(errors.InvalidPins) as raised:
                Forest(INV, START, pinned=pinned)
            self.assertIs(type(raised.exception), errors.InvalidPins)
        with self.assertRaises(TypeError):
            Forest(INV, START, [("", 0)])

    def test_reasons_of_invalid_moves(self):
        forest = Forest(MIXED, ["a", "c", "d", "b", "e"], pinned=list_slots(MIXED))
        self.check_raises(forest, "apply", [("swap", "a", "a")], "InvalidMove", reason=("move",))
        self.check_raises(forest, "apply", [("swap", "a", "c")], "InvalidMove", reason=("kinds",))
        self.check_raises(forest, "apply", [("swap", "a", "b")], "InvalidMove", reason=("position",))
        self.check_raises(forest, "apply", [["swap", "b", "e"]], "InvalidMove", reason=("move",))
        self.check_raises(forest, "apply", [nested(True, 100)], "InvalidMove", reason=("move",))
        self.check_raises(forest, "apply", [HUGE], "InvalidMove", reason=("move",))

    def test_the_least_pinned_slot(self):
        forest = Forest(MIXED, ["a", "c", "d", "b", "e"])
        slots = list_slots(MIXED)
        self.assertEqual(slots, [("", 0), ("", 1), ("a", 0), ("a", 1), ("c", 0)])
        forest.pin(("c", 0))
        self.check_raises(forest, "apply", [("swap", "b", "e")], "PinnedSlot", slot=("c", 0))
        self.check_raises(forest, "apply", [("swap", "e", "b")], "PinnedSlot", slot=("c", 0))
        self.check_raises(forest, "go_to", [["a", "c", "d", "e", "b"]], "PinnedSlot", slot=("c", 0))
        forest.pin(("a", 1))
        self.check_raises(forest, "apply", [("swap", "e", "b")], "PinnedSlot", slot=("a", 1))
        self.check_raises(forest, "go_to", [["a", "c", "d", "e", "b"]], "PinnedSlot", slot=("a", 1))
        self.check_raises(forest, "go_to", [["e", "c", "d", "b", "a"]], "PinnedSlot", slot=("c", 0))
        # Pinned slots beside the items that change place do not matter.
        self.assertEqual(forest.go_to(["a", "d", "c", "b", "e"]), [("swap", "c", "d")])
        forest.unpin(("a", 1))
        forest.unpin(("c", 0))
        forest.apply(("swap", "b", "e"))
        forest.pin(("c", 0))
        forest.pin(("a", 1))
        self.check_raises(forest, "undo", [], "PinnedSlot", slot=("a", 1))
        forest.unpin(("a", 1))
        self.check_raises(forest, "undo", [], "PinnedSlot", slot=("c", 0))
        forest.unpin(("c", 0))
        forest.pin(("", 0))
        forest.undo()
        self.assertEqual(forest.current(), ["a", "d", "c", "b", "e"])

    def test_order_of_errors(self):
        forest = Forest(INV, START, pinned=[("", 0), ("b", 0)])
        self.check_raises(forest, "undo", [], "NothingToUndo")
        self.check_raises(forest, "go_to", [["c", "a", "b"]], "InvalidArrangement", reason=("cycle", "a"))
        self.check_raises(forest, "go_to", [("b", "c", "a")], "InvalidArrangement", reason=("arrangement",))
        self.check_raises(forest, "go_to", [["b", "c", "a"]], "PinnedSlot", slot=("", 0))
        self.check_raises(forest, "unpin", [("a", False)], "UnknownSlot")
        self.check_raises(forest, "unpin", [("", False)], "UnknownSlot")
        self.check_raises(forest, "unpin", [("c", 0)], "UnknownSlot")
        self.check_raises(forest, "unpin", [("a", 0)], "NotPinned")
        self.check_raises(forest, "pin", [("", False)], "UnknownSlot")
        self.check_raises(forest, "pin", [["", 0]], "UnknownSlot")
        self.check_raises(forest, "pin", [None], "UnknownSlot")
        forest.unpin(("b", 0))
        self.check_raises(forest, "unpin", [("b", 0)], "NotPinned")
        self.assertEqual(forest.pins(), [("", 0)])

    def test_pinning_twice_has_no_effect(self):
        forest = Forest(INV, START)
        for slot in (("b", 0), ("", 0), ("b", 0), ("a", 0), ("", 0)):
            self.assertIsNone(forest.pin(slot))
        self.assertTrue(is_same(forest.pins(), [("", 0), ("a", 0), ("b", 0)]))
        self.assertIsNone(forest.next_move())
        forest.unpin(("b", 0))
        self.check_raises(forest, "unpin", [("b", 0)], "NotPinned")

    def test_what_go_to_returns(self):
        chance = random.Random(4)
        for inventory in LARGER + large_inventories():
            first, second = random_arrangement(chance, inventory), random_arrangement(chance, inventory)
            forest = Forest(inventory, first)
            path = forest.go_to(second)
            self.assertTrue(is_same(path, find_path(inventory, first, second)))
            self.assertEqual(state_of(forest), (second, [], path))
            same = [slot for slot, one, other in zip(list_slots(inventory), first, second) if one == other]
            pinned = Forest(inventory, first, pinned=same)
            self.assertEqual(pinned.go_to(second), path)
            self.assertTrue(is_same(forest.go_to(list(second)), []))
            for _ in path:
                pinned.undo()
            self.assertEqual(state_of(pinned), (first, same, []))


class EqualityTest(unittest.TestCase):

    def check(self, one, other, expected):
        self.assertIs(one == other, expected)
        self.assertIs(other == one, expected)
        self.assertIs(one != other, not expected)
        self.assertIs(other != one, not expected)

    def test_parts(self):
        more = (("k",), [("a", "k", ("k",)), ("b", "k", ("k",)), ("d", "k", ())])
        forest = Forest(INV, START)
        self.check(forest, forest, True)
        self.check(forest, Forest(INV, START), True)
        self.check(forest, Forest(INV, START, pinned=()), True)
        self.check(forest, Forest(INV, ["b", "c", "a"]), False)
        self.check(forest, Forest(INV, START, pinned=[("a", 0)]), False)
        self.check(forest, Forest(more, ["a", "b", "d"]), False)
        self.check(Forest(INV, START, pinned=[("a", 0)]), Forest(INV, START, pinned=(("a", 0),)), True)
        self.check(Forest(INV, START, pinned=[("a", 0)]), Forest(INV, START, pinned=[("b", 0)]), False)
        # The same arrangement, items and numbers of slots in other inventories.
        leaves = [("a", "k", ()), ("b", "k", ())]
        for roots, items in (
            (("k", "m"), [("a", "k", ()), ("b", "m", ())]), (("k",), [("a", "k", ("k",)), ("b", "k", ())]),
            (("m", "m"), [("a", "m", ()), ("b", "m", ())]),
        ):
            self.check(Forest((("k", "k"), leaves), ["a", "b"]), Forest((roots, items), ["a", "b"]), False)

    def test_the_history_does_not_matter(self):
        forest = Forest(INV, START)
        forest.apply(THERE)
        self.check(forest, Forest(INV, START), False)
        self.check(forest, Forest(INV, ["b", "c", "a"]), True)
        forest.apply(BACK)
        self.check(forest, Forest(INV, START), True)
        self.assertEqual(len(forest), 2)
        one, other = Forest(INV, START), Forest(INV, START)
        for slot in list_slots(INV):
            one.pin(slot)
        for slot in reversed(list_slots(INV)):
            other.pin(slot)
        self.check(one, other, True)
        one.unpin(("a", 0))
        self.check(one, other, False)
        one.pin(("a", 0))
        self.check(one, other, True)

    def test_other_objects(self):
        forest = Forest(INV, START)
        for value in values_of_every_sort() + [INV, START, [], {}, (INV, START, []), object(), Forest]:
            self.check(forest, value, False)
        self.assertIs(forest == mock.ANY, False)


class CopiesTest(unittest.TestCase):

    def test_arguments_that_change_later(self):
        items = [("a", "k", ("k",)), ("b", "k", ("k",)), ("c", "k", ())]
        arrangement, pinned = list(START), [("b", 0)]
        forest = Forest((("k",), items), arrangement, pinned=pinned)
        items[2] = ("d", "m", ("k", "k"))
        items.append(("e", "k", ()))
        arrangement[0], arrangement[1] = "z", "z"
        pinned.append(("", 0))
        self.assertEqual(forest, Forest(INV, START, pinned=[("b", 0)]))
        self.assertEqual(state_of(forest), (START, [("b", 0)], []))
        self.assertIsNone(forest.next_move())
        forest.unpin(("b", 0))
        self.assertEqual(forest.next_move(), THERE)
        forest.apply(THERE)
        target = list(START)
        forest.go_to(target)
        target.reverse()
        self.assertEqual(state_of(forest), (START, [], [THERE, BACK]))

    def test_arguments_do_not_change(self):
        items = [("a", "k", ("k",)), ("b", "k", ("k",)), ("c", "k", ())]
        arrangement, pinned, target = list(START), [("b", 0)], ["b", "c", "a"]
        forest = Forest((("k",), items), arrangement, pinned=pinned)
        forest.pin(("a", 0))
        forest.unpin(("b", 0))
        forest.unpin(("a", 0))
        forest.go_to(target)
        forest.undo()
        self.assertEqual((items, arrangement, pinned, target), (INV[1], START, [("b", 0)], ["b", "c", "a"]))

    def test_results_are_new(self):
        forest = Forest(INV, START, pinned=[])
        path = forest.go_to(["b", "c", "a"])
        forest.pin(("a", 0))
        expected = (["b", "c", "a"], [("a", 0)], [THERE])
        self.assertEqual((path, state_of(forest)), ([THERE], expected))
        for result in [path, *state_of(forest)]:
            result.append("x")
            result[0] = "y"
        self.assertTrue(is_same(state_of(forest), expected))
        results = [*state_of(forest), *state_of(forest), path]
        self.assertEqual(len({id(result) for result in results}), 7)
        forest.unpin(("a", 0))
        back = forest.go_to(START)
        back.clear()
        self.assertEqual(state_of(forest), (START, [], [THERE, BACK]))

    def test_two_forests_share_nothing(self):
        arrangement, pinned = list(START), [("a", 0)]
        one, other = Forest(INV, arrangement, pinned=pinned), Forest(INV, arrangement, pinned=pinned)
        one.unpin(("a", 0))
        one.apply(THERE)
        self.assertEqual(state_of(other), (START, [("a", 0)], []))
        self.assertEqual(state_of(one), (["b", "c", "a"], [], [THERE]))
        third = Forest(INV, one.current(), pinned=other.pins())
        third.unpin(("a", 0))
        third.apply(BACK)
        self.assertEqual(state_of(one), (["b", "c", "a"], [], [THERE]))
        self.assertEqual(other.pins(), [("a", 0)])


class NextMoveTest(unittest.TestCase):

    def test_it_leads_through_a_forest(self):
        for inventory in (chain_inventory(24), *large_inventories()[2:6]):
            forest = Forest(inventory, random_arrangement(random.Random(5), inventory))
            for slot in list_slots(inventory)[::2]:
                forest.pin(slot)
            for _ in range(5):
                move = forest.next_move()
                if move is not None:
                    self.assertIsNone(forest.apply(move))
            for slot in list_slots(inventory)[1::2]:
                forest.pin(slot)
            self.assertIsNone(forest.next_move())


if __name__ == "__main__":
    unittest.main()
