"""Tests of likeholes/placements.py: points 25 to 29, with point 3."""

import random
import unittest

from likeholes.errors import InvalidInventory, InvalidPlacements
from likeholes.inventories import list_slots
from likeholes.placements import check_answer, find_arrangement, reachable_kinds
from tests.references import (
    arrangements, candidate_certificates, expected_certificate, is_valid_certificate, reference_arrangement_error,
    reference_reachable, satisfying,
)
from tests.samples import (
    CUT_OFF, LARGER, MIXED, SMALL, SPLIT, STEPS, WIDE, hopeful_placements, large_inventories, random_arrangement,
    some_placements,
)
from tests.values import HUGE, INV, chain_inventory, is_same, nested, values_of_every_sort

ALL = SMALL + CUT_OFF + LARGER + [WIDE, STEPS]


class ReachableKindsTest(unittest.TestCase):

    def check(self, inventory, required, expected):
        for placements in (list(required), tuple(required)):
            self.assertTrue(is_same(reachable_kinds(inventory, required=placements), expected))
        self.assertEqual(reference_reachable(inventory, required), expected)

    def test_example(self):
        self.assertTrue(is_same(reachable_kinds(SPLIT), ["k"]))

    def test_no_placements(self):
        self.check(INV, [], ["k"])
        self.check(MIXED, [], ["k", "m"])
        self.check(WIDE, [], ["k", "m", "n"])
        self.check(STEPS, [], ["k", "m", "n"])
        for inventory in ALL:
            self.assertEqual(reachable_kinds(inventory), reachable_kinds(inventory, required=[]))

    def test_root_cluster(self):
        # With a and e in the root slots, the root itself offers no slot for m: b alone does.
        self.check(STEPS, [(("", 0), "a")], ["k", "m", "n"])
        self.check(STEPS, [(("", 0), "a"), (("", 1), "b")], ["m", "n"])
        self.check(STEPS, [(("", 0), "a"), (("", 1), "b"), (("b", 0), "c")], ["n"])
        self.check(STEPS, [(("", 0), "a"), (("", 1), "b"), (("b", 0), "c"), (("c", 0), "d")], [])
        # Without b in it, the root cluster is a alone, and b is free, but has no slot.
        self.check(STEPS, [(("", 0), "a"), (("", 1), "a")], [])

    def test_clusters_of_free_items(self):
        # c belongs to the cluster of b, which then offers the slot for n and not the one for m.
        self.check(STEPS, [(("b", 0), "c")], ["k", "n"])
        self.check(STEPS, [(("c", 0), "d")], ["k", "m"])
        self.check(STEPS, [(("b", 0), "c"), (("c", 0), "d")], ["k"])

    def test_kinds_without_free_items(self):
        inventory = (("k", "m", "n"), [("a", "k", ())])
        self.check(inventory, [], ["k"])
        self.check(inventory, [(("", 1), "a")], [])

    def test_cycles(self):
        items = [("a", "k", ("k", "m")), ("b", "k", ("k", "n")), ("c", "m", ()), ("d", "n", ()), ("e", "k", ())]
        ring = (("k",), items)
        # a and b contain each other, and no free item offers their other slots.
        self.check(ring, [(("a", 0), "b"), (("b", 0), "a")], ["k"])
        self.check(ring, [(("a", 0), "a")], ["k", "n"])
        # In the root cluster, the slots of each item count once, also in a cycle.
        self.check(ring, [(("", 0), "a"), (("a", 0), "b"), (("b", 0), "a")], ["m", "n"])

    def test_items_in_several_slots(self):
        inventory = (("k",), [("a", "k", ("k",)), ("b", "k", ("k",)), ("c", "k", ("m",)), ("d", "m", ())])
        # c belongs to the clusters of a and of b, each of which is enough.
        self.check(inventory, [(("a", 0), "c"), (("b", 0), "c")], ["k", "m"])
        self.check(inventory, [(("", 0), "b"), (("a", 0), "c"), (("b", 0), "c")], ["m"])
        self.check(inventory, [(("", 0), "b"), (("a", 0), "c")], ["k", "m"])
        self.check(inventory, [(("", 0), "d"), (("a", 0), "c")], [])

    def test_against_the_reference(self):
        chance = random.Random(1)
        for inventory in ALL:
            for required in some_placements(chance, inventory, 500):
                self.check(inventory, required, reference_reachable(inventory, required))

    def test_large_inventories(self):
        chance = random.Random(2)
        for inventory in large_inventories():
            arrangement = random_arrangement(chance, inventory)
            for _ in range(4):
                required = hopeful_placements(chance, inventory, arrangement)
                expected = reference_reachable(inventory, required)
                self.assertTrue(is_same(reachable_kinds(inventory, required=required), expected))


class FindArrangementTest(unittest.TestCase):

    def check_certificate(self, inventory, required, certificate):
        for placements in (list(required), tuple(required)):
            found = find_arrangement(inventory, required=placements)
            self.assertTrue(is_same(found, ("impossible", certificate)), (found, certificate))
        self.assertTrue(is_valid_certificate(inventory, required, certificate))
        self.assertIs(check_answer(inventory, ("impossible", certificate), required=required), True)

    def check_arrangement(self, inventory, required):
        for placements in (list(required), tuple(required)):
            word, found = find_arrangement(inventory, required=placements)
            self.assertEqual(word, "arrangement")
            self.assertTrue(satisfying(inventory, required, [found]))
            self.assertIsNone(reference_arrangement_error(inventory, found))
            self.assertIs(check_answer(inventory, (word, found), required=placements), True)

    def test_example(self):
        self.assertTrue(is_same(find_arrangement(SPLIT), ("impossible", ("unreachable", ["m"]))))

    def test_arrangements(self):
        self.check_arrangement(INV, [])
        self.check_arrangement(INV, [(("", 0), "b")])
        self.check_arrangement(INV, [(("a", 0), "c")])
        self.check_arrangement(INV, [(("", 0), "a"), (("a", 0), "b"), (("b", 0), "c")])
        self.check_arrangement(chain_inventory(24), [])
        self.check_arrangement(chain_inventory(24), [(("a", 0), "x")])

    def test_count(self):
        self.check_certificate((("k",), [("a", "m", ())]), [], ("count", "k"))
        self.check_certificate((("z",), [("a", "m", ())]), [], ("count", "m"))
        self.check_certificate((("k", "z"), [("a", "k", ("b",))]), [], ("count", "b"))

    def test_kind(self):
        self.check_certificate(MIXED, [(("", 1), "a")], ("kind", ("", 1)))
        self.check_certificate(MIXED, [(("", 0), "a"), (("a", 0), "b"), (("a", 1), "d")], ("kind", ("a", 0)))
        self.check_certificate(MIXED, [(("c", 0), "d")], ("kind", ("c", 0)))

    def test_twice(self):
        self.check_certificate(INV, [(("a", 0), "c"), (("b", 0), "c")], ("twice", "c"))
        required = [(("", 0), "e"), (("", 1), "c"), (("a", 0), "c"), (("a", 1), "e")]
        self.check_certificate(MIXED, required, ("twice", "c"))
        self.check_certificate(INV, [(("", 0), "a"), (("a", 0), "a"), (("b", 0), "a")], ("twice", "a"))

    def test_cycle(self):
        self.check_certificate(INV, [(("a", 0), "a")], ("cycle", ["a"]))
        self.check_certificate(INV, [(("a", 0), "b"), (("b", 0), "a")], ("cycle", ["a", "b"]))
        chain = chain_inventory(5)
        required = [(("a", 0), "c"), (("b", 0), "a"), (("c", 0), "b")]
        self.check_certificate(chain, required, ("cycle", ["a", "b", "c"]))
        required = [(("a", 0), "b"), (("b", 0), "c"), (("c", 0), "a")]
        self.check_certificate(chain, required, ("cycle", ["a", "c", "b"]))
        # Of two cycles it is the one with the least name, and a below the cycle does not count.
        self.check_certificate(chain, [(("a", 0), "c"), (("b", 0), "d"), (("c", 0), "a"), (("d", 0), "b")],
                               ("cycle", ["a", "c"]))
        self.check_certificate(chain, [(("b", 0), "c"), (("c", 0), "b"), (("d", 0), "d")], ("cycle", ["b", "c"]))
        wide = (("k",), [("a", "k", ()), ("b", "k", ("k", "k")), ("c", "k", ("k",)), ("d", "k", ())])
        self.check_certificate(wide, [(("b", 0), "a"), (("b", 1), "c"), (("c", 0), "b")], ("cycle", ["b", "c"]))

    def test_long_cycle(self):
        chain = chain_inventory(24)
        names = [item[0] for item in chain[1]]
        required = list(zip(list_slots(chain)[1:], names[1:-1] + names[:1]))
        self.check_certificate(chain, required, ("cycle", [names[0]] + names[22:0:-1]))

    def test_unreachable(self):
        self.check_certificate(CUT_OFF[1], [], ("unreachable", ["m", "n"]))
        self.check_certificate(CUT_OFF[2], [], ("unreachable", ["m", "n"]))
        self.check_certificate(CUT_OFF[2], [(("c", 1), "d")], ("unreachable", ["m"]))
        loop = (("k",), [("a", "k", ("m",)), ("b", "m", ("k",)), ("c", "k", ())])
        self.check_certificate(loop, [(("", 0), "c")], ("unreachable", ["k", "m"]))
        self.check_certificate(loop, [(("", 0), "c"), (("a", 0), "b")], ("unreachable", ["k"]))

    def test_order_of_forms(self):
        items = [("a", "k", ("k",)), ("b", "m", ("k",)), ("c", "k", ("m",)), ("d", "k", ()), ("e", "k", ())]
        inventory = (("k", "k"), items)
        unreachable = [(("", 0), "d"), (("", 1), "e")]
        cycle = [(("", 0), "d"), (("a", 0), "a"), (("b", 0), "c"), (("c", 0), "b")]
        twice = [(("", 0), "d"), (("", 1), "d"), (("b", 0), "c"), (("c", 0), "b")]
        kind = [(("", 0), "d"), (("", 1), "b"), (("b", 0), "d"), (("c", 0), "b")]
        self.check_arrangement(inventory, [])
        self.check_certificate(inventory, unreachable, ("unreachable", ["k", "m"]))
        self.check_certificate(inventory, cycle, ("cycle", ["a"]))
        self.check_certificate(inventory, cycle[:1] + cycle[2:], ("cycle", ["b", "c"]))
        self.check_certificate(inventory, twice, ("twice", "d"))
        self.check_certificate(inventory, kind, ("kind", ("", 1)))
        more = (("k", "k", "k"), items)
        self.check_certificate(more, kind, ("count", "k"))
        self.check_certificate(more, cycle, ("count", "k"))
        self.check_certificate(more, unreachable, ("count", "k"))

    def test_all_placements_of_small_inventories(self):
        chance = random.Random(3)
        for inventory in ALL:
            candidates = candidate_certificates(inventory)
            found = arrangements(inventory)
            for required in some_placements(chance, inventory, 300 if len(inventory[1]) > 4 else 700):
                expected = expected_certificate(inventory, required, candidates)
                self.assertEqual(expected is None, satisfying(inventory, required, found) != [])
                if expected is None:
                    self.check_arrangement(inventory, required)
                else:
                    self.check_certificate(inventory, required, expected)

    def test_placements_of_one_arrangement_and_others_near_it(self):
        chance = random.Random(4)
        for inventory in ALL:
            found = arrangements(inventory)
            for arrangement in found[:12]:
                for _ in range(25):
                    required = hopeful_placements(chance, inventory, arrangement)
                    word, proof = find_arrangement(inventory, required=required)
                    exists = satisfying(inventory, required, found) != []
                    self.assertEqual(word, "arrangement" if exists else "impossible")
                    if not exists:
                        self.assertTrue(is_valid_certificate(inventory, required, proof))

    def test_large_inventories(self):
        chance = random.Random(5)
        for inventory in large_inventories():
            slots = list_slots(inventory)
            arrangement = random_arrangement(chance, inventory)
            for count in {0, 1, len(slots) // 2, len(slots) - 2, len(slots)}:
                chosen = sorted(chance.sample(range(len(slots)), count))
                self.check_arrangement(inventory, [(slots[k], arrangement[k]) for k in chosen])
            for _ in range(6):
                required = hopeful_placements(chance, inventory, arrangement)
                word, proof = find_arrangement(inventory, required=required)
                if word == "arrangement":
                    self.check_arrangement(inventory, required)
                else:
                    self.check_certificate(inventory, required, proof)


class CheckAnswerTest(unittest.TestCase):

    def check(self, inventory, value, required, expected):
        for placements in (list(required), tuple(required)):
            self.assertIs(check_answer(inventory, value, required=placements), expected, (value, required))

    def test_example(self):
        found = check_answer(INV, ("arrangement", ["b", "c", "a"]), required=[(("a", 0), "c")])
        self.assertIs(found, True)

    def test_arrangements(self):
        self.assertIs(check_answer(INV, ("arrangement", ["a", "b", "c"])), True)
        self.check(INV, ("arrangement", ["a", "b", "c"]), [], True)
        self.check(INV, ("arrangement", ["a", "b", "c"]), [(("a", 0), "c")], False)
        self.check(INV, ("arrangement", ["a", "b", "c"]), [(("", 0), "a"), (("a", 0), "b"), (("b", 0), "c")], True)
        self.check(INV, ("arrangement", ["c", "a", "b"]), [], False)
        self.check(INV, ("arrangement", ("a", "b", "c")), [], False)
        self.check(INV, ("arrangement", ["a", "b"]), [], False)
        self.check(INV, ("arrangement", ["a", "b", "b"]), [], False)
        self.check(INV, ("arrangement", []), [], False)
        self.check(INV, ("impossible", ["a", "b", "c"]), [], False)
        self.check(SMALL[8], ("arrangement", ["a", "b"]), [], False)

    def test_wholes(self):
        good = ("arrangement", ["a", "b", "c"])
        for value in (
            list(good), good[:1], good + (None,), (), [], None, True, "arrangement", good[::-1], (good,),
            ("Arrangement", good[1]), ("", good[1]), (None, good[1]), (good, good), (("arrangement",), good[1]),
            (["arrangement"], good[1]), HUGE, {},
        ):
            self.check(INV, value, [], False)
        certificate = ("unreachable", ["m"])
        self.check(SPLIT, ("impossible", certificate), [], True)
        for value in (
            ["impossible", certificate], ("impossible", list(certificate)), ("impossible",) + certificate, certificate,
            ("impossible", (certificate,)), ("impossible", certificate + (0,)), ("impossible", certificate[:1]),
            ("impossible",), ("arrangement", certificate), ("impossible", ()), ("impossible", ("unreachable", ("m",))),
        ):
            self.check(SPLIT, value, [], False)

    def test_other_values_in_every_place(self):
        ring = [(("a", 0), "b"), (("b", 0), "a")]
        for value in values_of_every_sort():
            self.check(INV, value, ring, False)
            self.check(INV, (value, ["a", "b", "c"]), [], False)
            self.check(INV, ("arrangement", value), [], False)
            self.check(INV, ("arrangement", ["a", "b", value]), [], False)
            self.check(INV, ("impossible", value), ring, False)
            self.check(INV, (value, ("cycle", ["a", "b"])), ring, False)
            self.check(INV, ("impossible", (value, ["a", "b"])), ring, False)
            for word in ("count", "kind", "twice", "cycle", "unreachable"):
                for proof in (value, [value], (value,), ["a", value], ["a", "b", value], (value, 0), ("a", value)):
                    for inventory, required in ((INV, ring), (SMALL[9], [(("", 0), "b"), (("a", 0), "a")])):
                        expected = is_valid_certificate(inventory, required, (word, proof))
                        self.check(inventory, ("impossible", (word, proof)), required, expected)

    def test_count(self):
        inventory = (("k", "k"), [("a", "k", ("k",)), ("b", "m", ())])
        for kind, expected in (("k", True), ("m", True), ("n", False), ("a", False), ("", False), (2, False)):
            self.check(inventory, ("impossible", ("count", kind)), [], expected)
        self.check(INV, ("impossible", ("count", "k")), [], False)
        self.check(inventory, ("impossible", ("count", ["k"])), [], False)

    def test_kind(self):
        required = [(("", 0), "a"), (("", 1), "b"), (("a", 0), "e")]
        for slot, expected in (
            (("", 0), False), (("", 1), True), (("a", 0), True), (("a", 1), False), (("", True), False),
            (("a", False), False), (["a", 0], False), ("a", False), (("zz", 0), False),
        ):
            self.check(MIXED, ("impossible", ("kind", slot)), required, expected)

    def test_twice(self):
        required = [(("", 0), "a"), (("a", 0), "a"), (("b", 0), "c")]
        for name, expected in (("a", True), ("b", False), ("c", False), ("", False), ("zz", False), (["a"], False)):
            self.check(INV, ("impossible", ("twice", name)), required, expected)

    def test_cycle(self):
        chain = chain_inventory(5)
        required = [(("a", 0), "c"), (("b", 0), "a"), (("c", 0), "b"), (("d", 0), "d")]
        for names, expected in (
            (["a", "b", "c"], True), (["d"], True), (("a", "b", "c"), False), (["b", "c", "a"], False),
            (["a", "c", "b"], False), (["a", "b"], False), (["a"], False), ([], False), (["e"], False),
            (["d", "d"], False), (["a", "b", "c", "a", "b", "c"], False), (["a", "b", "c", "d"], False),
            (["zz"], False), (["a", "b", None], False), ([["a"], "b", "c"], False),
            ("d", False), (["a", "b", "e"], False), ([""], False),
        ):
            self.check(chain, ("impossible", ("cycle", names)), required, expected)
        # b is required in slots of a and c, so that it is in two cycles.
        several = [(("a", 0), "b"), (("b", 0), "a"), (("c", 0), "b")]
        self.check(chain, ("impossible", ("cycle", ["a", "b"])), several, True)
        self.check(chain, ("impossible", ("cycle", ["b", "c"])), several, False)
        both = (("k",), [("a", "k", ("k",)), ("b", "k", ("k", "k")), ("c", "k", ("k",))])
        several = [(("a", 0), "b"), (("b", 0), "a"), (("b", 1), "c"), (("c", 0), "b")]
        self.check(both, ("impossible", ("cycle", ["a", "b"])), several, True)
        self.check(both, ("impossible", ("cycle", ["b", "c"])), several, True)
        self.check(both, ("impossible", ("cycle", ["a", "b", "c"])), several, False)

    def test_unreachable(self):
        # n hangs from m alone, m from itself, and q from itself.
        inventory = (
            ("k",),
            [("a", "k", ()), ("b", "m", ("m", "n")), ("c", "n", ()), ("d", "q", ("q",))],
        )
        for kinds, expected in (
            (["m", "n", "q"], True), (["m", "n"], True), (["q"], True), (["m"], True), (["n"], False),
            (["n", "q"], False), (["m", "q"], True), (["q", "m"], False), (["m", "m"], False), ([], False),
            (("m", "n"), False), (["k"], False), (["k", "m"], False), (["zz"], False), (["m", "zz"], False),
            ("m", False), (["m", None], False), ([["m"]], False),
        ):
            self.check(inventory, ("impossible", ("unreachable", kinds)), [], expected)
        # A kind of which all items are required does not count.
        self.check(inventory, ("impossible", ("unreachable", ["n"])), [(("b", 1), "c")], False)
        self.check(inventory, ("impossible", ("unreachable", ["m", "n"])), [(("b", 1), "c")], False)
        self.check(inventory, ("impossible", ("unreachable", ["m"])), [(("b", 1), "c")], True)
        self.check(inventory, ("impossible", ("unreachable", ["m"])), [(("", 0), "b")], False)

    def test_all_forms_for_all_placements(self):
        chance = random.Random(6)
        for inventory in SMALL + CUT_OFF + LARGER[1:2] + [STEPS]:
            candidates = candidate_certificates(inventory)
            for required in some_placements(chance, inventory, 125):
                for value in chance.sample(candidates, min(40, len(candidates))):
                    expected = is_valid_certificate(inventory, required, value)
                    self.assertIs(check_answer(inventory, ("impossible", value), required=required), expected)
                for value in arrangements(inventory):
                    expected = satisfying(inventory, required, [value]) != []
                    self.assertIs(check_answer(inventory, ("arrangement", value), required=required), expected)

    def test_damaged_answers(self):
        chance = random.Random(7)
        for inventory in large_inventories():
            arrangement = random_arrangement(chance, inventory)
            required = list(zip(list_slots(inventory), arrangement))[::3]
            word, found = find_arrangement(inventory, required=required)
            self.check(inventory, (word, found), required, True)
            self.check(inventory, (word, found[:-1]), required, False)
            self.check(inventory, (word, found + found[:1]), required, False)
            self.check(inventory, (word, tuple(found)), required, False)
            self.check(inventory, (word, ["zz"] + found[1:]), required, False)
            self.check(inventory, (word, found[1:] + found[:1]), required, False)
            self.check(inventory, ("impossible", found), required, False)


class WrongPlacementsTest(unittest.TestCase):

    good = [(("", 0), "a"), (("a", 0), "b")]

    def check_raises(self, required, inventory=INV):
        calls = [
            lambda: reachable_kinds(inventory, required=required),
            lambda: find_arrangement(inventory, required=required),
            lambda: check_answer(inventory, ("arrangement", ["a", "b", "c"]), required=required),
            lambda: check_answer(inventory, nested(False, 100), required=required),
        ]
        for call in calls:
            with self.assertRaises(InvalidPlacements) as raised:
                call()
            self.assertIs(type(raised.exception), InvalidPlacements)

    def test_wholes(self):
        for required in (None, True, 0, HUGE, "", "a", {}, {("", 0): "a"}, self.good[0], ("", 0), ("a",)):
            self.check_raises(required)
        for value in values_of_every_sort():
            if value not in ((), []):
                self.check_raises(value)
            self.check_raises([value])
            self.check_raises((value,))
            self.check_raises(self.good + [value])

    def test_entries(self):
        slot, name = self.good[0]
        for entry in (
            [slot, name], (slot,), (name,), (name, slot), (slot, name, name), (slot, [name]), ([*slot], name),
            (slot, "d"), (slot, ""), (slot, "k"), (slot, None), (slot, 0), (("", False), "a"), (("", True), "a"),
            (("", 1), "a"),
            (("", -1), "a"), (("c", 0), "a"), (("zz", 0), "a"), (("", HUGE), "a"), (("",), "a"), (("", 0, 0), "a"),
            ("", "a"), (None, "a"), (slot, ("a",)), (slot, True), ("a", 0), ((slot, name),), (("", 0), ("", 0)),
        ):
            self.check_raises([entry])
            self.check_raises((entry,))
            self.check_raises([entry] + self.good[1:])
            self.check_raises([entry, *self.good])
        for value in values_of_every_sort():
            if value != "a":
                self.check_raises([(slot, value)])
            self.check_raises([((value, 0), "a")] if value not in ("", "a") else None)
            self.check_raises([(("a", value), "a")] if not is_same(value, 0) else None)
            if value != ("", 0) and value != ("a", 0):
                self.check_raises([(value, "a")])

    def test_order_of_slots(self):
        self.check_raises(self.good[::-1])
        self.check_raises([self.good[0], self.good[0]])
        self.check_raises([(("", 0), "a"), (("", 0), "b")])
        self.check_raises([(("a", 0), "a"), (("b", 0), "b"), (("a", 0), "a")])
        self.check_raises([(("a", 0), "a"), (("", 0), "b"), (("b", 0), "c")])
        # The same item may be required in several slots.
        self.assertEqual(find_arrangement(INV, required=[(("", 0), "a"), (("a", 0), "a")])[0], "impossible")
        self.assertEqual(reachable_kinds(INV, required=tuple(self.good)), ["k"])

    def test_the_inventory_comes_first(self):
        for required in (None, [None], HUGE, [(("", 0), "zz")], []):
            for value in values_of_every_sort():
                with self.assertRaises(InvalidInventory):
                    reachable_kinds(value, required=required)
                with self.assertRaises(InvalidInventory):
                    find_arrangement(value, required=required)
                with self.assertRaises(InvalidInventory):
                    check_answer(value, value, required=required)


if __name__ == "__main__":
    unittest.main()
