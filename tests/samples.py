"""Inventories, small and large, and arrangements of them, that the tests share."""

import itertools
import random

from likeholes.inventories import list_slots, slot_kind
from tests.references import (
    reference_after, reference_ancestors, reference_arrangement_error, reference_move_error, reference_parents,
)
from tests.values import INV, chain_inventory

# Two kinds, several root slots, items without slots and with slots of both kinds.
MIXED = (
    ("k", "m"),
    [("a", "k", ("m", "k")), ("b", "k", ()), ("c", "m", ("k",)), ("d", "m", ()), ("e", "k", ())],
)
# The two items of kind k are often on one path, so that others have to move before they can change places.
TIGHT = (
    ("k", "m"),
    [("a", "k", ("m",)), ("b", "k", ("m",)), ("c", "m", ("k",)), ("d", "m", ()), ("e", "m", ("n",)), ("f", "n", ())],
)
SMALL = [
    INV,
    (("k",), [("a", "k", ())]),
    (("k", "k"), [("a", "k", ()), ("b", "k", ())]),
    (("k",), [("a", "k", ("k",)), ("b", "k", ())]),
    (("k",), [("a", "k", ("m",)), ("b", "m", ("k",)), ("c", "k", ())]),
    (("k",), [("a", "k", ("k", "k")), ("b", "k", ()), ("c", "k", ())]),
    (("m",), [("a", "k", ("k", "m")), ("b", "k", ()), ("c", "m", ("k",))]),
    (("k",), [("a", "k", ("k",)), ("b", "k", ("k",)), ("c", "k", ("k",)), ("d", "k", ())]),
    # More items than slots, and more slots than items.
    (("k",), [("a", "k", ("k",)), ("b", "k", ()), ("c", "k", ())]),
    (("k", "k"), [("a", "k", ("k",)), ("b", "m", ())]),
    MIXED,
]
# As many slots as items for each kind, but items that hang from nothing but each other.
SPLIT = (("k",), [("a", "k", ()), ("b", "m", ("m",))])
CUT_OFF = [
    SPLIT,
    (("k",), [("a", "k", ()), ("b", "m", ("n",)), ("c", "n", ("m",))]),
    (("k",), [("a", "k", ("k",)), ("b", "k", ()), ("c", "m", ("m", "n")), ("d", "n", ())]),
]
# Inventories of five and six items, with paths that go through several kinds.
LARGER = [
    (("k",), [("a", "k", ("k",)), ("b", "k", ("k",)), ("c", "k", ("k",)), ("d", "k", ("k",)), ("e", "k", ())]),
    (("k",), [("a", "k", ("m",)), ("b", "k", ("m",)), ("c", "m", ("k",)), ("d", "m", ())]),
    (("k",), [("a", "k", ("m",)), ("b", "k", ("m",)), ("c", "m", ("k",)), ("d", "m", ("k",)), ("e", "k", ())]),
    (("k",), [("a", "k", ("m",)), ("b", "m", ("k",)), ("c", "m", ("m",)), ("d", "k", ("m",)), ("e", "m", ())]),
    (("m",), [("a", "m", ("k",)), ("b", "k", ("n",)), ("c", "n", ("m",)), ("d", "m", ("k", "n")), ("e", "k", ()),
              ("f", "n", ())]),
    TIGHT,
]
# Root slots, items that lead to further kinds, and a kind that only hangs from itself.
WIDE = (
    ("k", "m"),
    [("a", "k", ("m",)), ("b", "m", ("n",)), ("c", "m", ("k",)), ("d", "n", ()), ("e", "k", ()), ("f", "p", ("p",))],
)
# The kind m can be reached only by an item of kind k, and n only by one of kind m.
STEPS = (("k", "k"), [("a", "k", ()), ("b", "k", ("m",)), ("c", "m", ("n",)), ("d", "n", ())])
# Items with twins: with no, one and two slots, of several kinds, and items that are alike but no twins.
TWINS = [
    (("k", "k"), [("a", "k", ("k", "k")), ("b", "k", ("k", "k")), ("c", "k", ()), ("d", "k", ()), ("e", "k", ()),
                  ("f", "k", ())]),
    (("m",), [("a", "k", ("m",)), ("b", "k", ("m",)), ("c", "m", ("k",)), ("d", "m", ("k",)), ("e", "m", ())]),
    (("k",), [("a", "k", ("k", "m")), ("b", "k", ("m", "k")), ("c", "m", ()), ("d", "m", ()), ("e", "k", ())]),
    (("k", "m"), [("a", "k", ("m",)), ("b", "k", ("m",)), ("c", "k", ("k",)), ("d", "m", ("k",)), ("e", "m", ()),
                  ("f", "m", ())]),
    (("k", "k", "k"), [("a", "k", ("m", "m")), ("b", "k", ("m", "m")), ("c", "k", ()), ("d", "m", ()), ("e", "m", ()),
                       ("f", "m", ()), ("g", "m", ())]),
]
# Six kinds: on one path, side by side, and with two items of some of them.
SIX_KINDS = [
    (("k",), [("a", "k", ("m",)), ("b", "m", ("n",)), ("c", "n", ("p",)), ("d", "p", ("q",)), ("e", "q", ("r",)),
              ("f", "r", ())]),
    (("k", "m", "n"), [("a", "k", ("p", "q")), ("b", "m", ()), ("c", "n", ("r",)), ("d", "p", ()), ("e", "q", ()),
                       ("f", "r", ())]),
    (("k", "m"), [("a", "k", ("k", "n")), ("b", "k", ("m", "p")), ("c", "m", ("q",)), ("d", "m", ("r",)),
                  ("e", "n", ()), ("f", "p", ()), ("g", "q", ()), ("h", "r", ())]),
]
# No arrangement: a kind without items, a kind without slots, too few and too many slots.
WITHOUT = [
    (("k", "m"), [("a", "k", ())]),
    (("k",), [("a", "k", ()), ("b", "m", ())]),
    (("k",), [("a", "k", ("m",)), ("b", "k", ())]),
    (("k", "k"), [("a", "k", ()), ("b", "k", ("k",))]),
]


def grown_inventory(chance, count, kinds, depth):
    """Return an inventory of so many items, which were placed one after another.

    The depth is the probability that an item is placed in the one before it.
    """
    names = chance.sample([first + second for first in "abcdefgh" for second in "pqrst"], count)
    slots = {"": []}
    kind_of = {}
    for index, name in enumerate(names):
        owners = [owner for owner in slots if len(slots[owner]) < 4]
        owner = names[index - 1] if index > 0 and chance.random() < depth else chance.choice(owners)
        kind_of[name] = chance.choice(kinds)
        slots[owner].append(kind_of[name])
        slots[name] = []
    for kinds_of_slots in slots.values():
        chance.shuffle(kinds_of_slots)
    return (tuple(slots[""]), [(name, kind_of[name], tuple(slots[name])) for name in sorted(names)])


def random_arrangement(chance, inventory):
    """Return an arrangement: the names of each kind in random order, tried until no cycle is left."""
    slots = list_slots(inventory)
    while True:
        names = {}
        for item in chance.sample(inventory[1], len(inventory[1])):
            names.setdefault(item[1], []).append(item[0])
        arrangement = [names[slot_kind(inventory, slot)].pop() for slot in slots]
        if reference_arrangement_error(inventory, arrangement) is None:
            return arrangement


def large_inventories():
    """Return inventories of 24 items: deep and wide ones, of one kind and of up to six kinds."""
    chance = random.Random(1)
    found = [chain_inventory(24), (("k",) * 4, [(name, "k", ()) for name in "abcd"])]
    for kinds in ("k", "km", "kmn", "kmnpqr"):
        for depth in (0, 0.5, 0.9, 1):
            found.append(grown_inventory(chance, 24, kinds, depth))
    # Six kinds in turn on one path.
    names = [first + second for first in "ab" for second in "abcdefghijkl"]
    found.append((("k",), [(name, "kmnpqr"[i % 6], ("kmnpqr"[(i + 1) % 6],)[:23 - i]) for i, name in enumerate(names)]))
    return found


def random_walk(chance, inventory, arrangement, count):
    """Return a list of at most so many moves, each of which applies after the moves before it."""
    moves = []
    for _ in range(count):
        move = random_move(chance, inventory, arrangement)
        if move is not None:
            moves.append(move)
            arrangement = reference_after(inventory, arrangement, move)
    return moves


def random_move(chance, inventory, arrangement):
    """Return a move that applies, of names on one path or of any two names, or None if none is met."""
    parents = reference_parents(inventory, arrangement)
    names = [item[0] for item in inventory[1]]
    for _ in range(40):
        name = chance.choice(names)
        path = reference_ancestors(parents, name) + [name]
        move = ("swap",) + tuple(chance.sample(names, min(2, len(names))))
        if len(path) > 2 and chance.random() < 0.6:
            chosen = sorted(chance.sample(range(len(path)), 3) + [chance.randrange(len(path))])
            move = ("segments",) + tuple(path[k] for k in chosen)
        if reference_move_error(inventory, arrangement, move) is None:
            return move
    return None


def all_placements(inventory):
    """Go through all required placements of the inventory."""
    slots = list_slots(inventory)
    names = [item[0] for item in inventory[1]]
    for chosen in itertools.product([None] + names, repeat=len(slots)):
        yield [(slot, name) for slot, name in zip(slots, chosen) if name is not None]


def some_placements(chance, inventory, count):
    """Return all required placements of the inventory, or so many of them by chance."""
    slots = list_slots(inventory)
    names = [item[0] for item in inventory[1]]
    if (len(names) + 1) ** len(slots) <= count:
        return list(all_placements(inventory))
    found = []
    for _ in range(count):
        rate = chance.choice((0.1, 0.3, 0.6, 1))
        found.append([(slot, chance.choice(names)) for slot in slots if chance.random() < rate])
    return found


def hopeful_placements(chance, inventory, arrangement):
    """Return some placements of an arrangement, of which one may be damaged."""
    slots = list_slots(inventory)
    chosen = sorted(chance.sample(range(len(slots)), chance.randint(0, len(slots))))
    required = [(slots[k], arrangement[k]) for k in chosen]
    if required and chance.random() < 0.5:
        k = chance.randrange(len(required))
        required[k] = (required[k][0], chance.choice(arrangement))
    return required
