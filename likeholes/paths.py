"""Paths between arrangements: finding and checking them.

An item is settled if it has the same slot in the arrangement and in the target, and free otherwise.
No step moves a settled item. Each step settles an item, or prepares one of the next steps to do so:
it makes a link, at most one for each kind but that of the item to settle, which no step breaks before
an item is settled, or it takes that item out of the one whose slot it needs. This bounds their number.
"""

from likeholes.arrangements import chain_above, check_arrangement, is_below, parents_by_name
from likeholes.inventories import is_slot, kinds_by_name, kinds_by_slot
from likeholes.moves import arrangement_after, moves_error
from likeholes.pins import check_pins, pinned_names


def find_path(inventory, first, second):
    """Return a move list from first to second that names no item with the same slot in both."""
    check_arrangement(inventory, first)
    check_arrangement(inventory, second)
    moves = []
    arrangement = list(first)
    while arrangement != second:
        move = next_step(Comparison(inventory, arrangement, second))
        moves.append(move)
        arrangement = arrangement_after(arrangement, move)
    return moves


def check_path(inventory, first, second, value, *, pinned=()):
    """Return the first reason why the value does not answer whether second can be reached, or None."""
    check_arrangement(inventory, first)
    check_arrangement(inventory, second)
    check_pins(inventory, pinned)
    if not isinstance(value, tuple) or len(value) != 2:
        return ("answer",)
    word, proof = value
    if word == "moves":
        return reason_against_moves(inventory, first, second, proof, pinned)
    if word == "pinned":
        is_proof = is_slot(proof) and proof in pinned and proof in changed_slots(inventory, first, second)
        return None if is_proof else ("slot",)
    return ("answer",)


def reason_against_moves(inventory, first, second, moves, pinned):
    """Return the first reason why the value is no move list to second that spares pinned slots, or None."""
    reason = moves_error(inventory, first, moves)
    if reason is not None:
        return ("invalid", reason)
    arrangement = first
    for index, move in enumerate(moves):
        held = pinned_names(inventory, arrangement, pinned)
        if any([name in held for name in move[1:]]):
            return ("touched", index)
        arrangement = arrangement_after(arrangement, move)
    return None if arrangement == second else ("target",)


def changed_slots(inventory, first, second):
    """Return the slots that hold different items in two arrangements."""
    return [slot for slot, one, other in zip(kinds_by_slot(inventory), first, second) if one != other]


class Comparison:
    """An arrangement and the target that moves are to lead to."""

    def __init__(self, inventory, arrangement, target):
        self.arrangement = arrangement
        self.target = target
        self.owners = [slot[0] for slot in kinds_by_slot(inventory)]
        self.kinds = kinds_by_name(inventory)
        self.parents = parents_by_name(inventory, arrangement)
        self.target_parents = parents_by_name(inventory, target)
        self.free = [now for now, then in zip(arrangement, target) if now != then]

    def is_fixed(self, owner):
        """Return whether the owner is the root, or it and all its ancestors are settled."""
        if owner == "":
            return True
        return not any([name in self.free for name in [owner, *chain_above(self.parents, owner)]])

    def next_index(self):
        """Return the least index of a slot that needs another item and will not move itself."""
        indices = [k for k, name in enumerate(self.arrangement) if name != self.target[k]]
        return [k for k in indices if self.is_fixed(self.owners[k])][0]

    def item_in_place_of(self, name):
        """Return the item that now occupies the target slot of this one."""
        return self.arrangement[self.target.index(name)]


def next_step(comparison):
    """Return a move, of free items only, that brings the arrangement nearer to its target."""
    index = comparison.next_index()
    x = comparison.arrangement[index]
    y = comparison.target[index]
    parents = comparison.parents
    if not is_below(parents, y, x):
        return ("swap", x, y)
    kinds = comparison.kinds
    others = [name for name in comparison.free if kinds[name] == kinds[x] and name not in (x, y)]
    lower = [name for name in others if is_below(parents, name, y)]
    if lower:
        return ("segments", x, y, y, lower[0])
    outer = [name for name in others if not is_below(parents, name, x)]
    if outer:
        return ("swap", outer[0], y)
    return linking_step(comparison, x, y)


def linking_step(comparison, x, y):
    """Return a move that puts an item into its place on a line which will hold one of the kind of x.

    The line hangs from y, or from an item outside of x, so that y can leave x when it is complete.
    """
    line = [name for name in chain_above(comparison.target_parents, x) if name in comparison.free]
    home = y
    if line[0] == y:
        line = line[1:]
    else:
        home = comparison.item_in_place_of(line[0])
    line = part_before_kind(comparison.kinds, line, comparison.kinds[x])
    parents = comparison.parents
    links = links_of_line(comparison.kinds, line)
    v, place = [link for link in links if link[0] != home and not is_below(parents, link[0], home)][0]
    w = comparison.item_in_place_of(place)
    if home == y and is_below(parents, y, v):
        return ("segments", x, v, y, w)
    return ("swap", v, w)


def part_before_kind(kinds, names, kind):
    """Return the names before the first item of the kind."""
    part = []
    for name in names:
        if kinds[name] == kind:
            break
        part.append(name)
    return part


def links_of_line(kinds, line):
    """Return pairs of an item, at most one of each kind, and the one of its kind whose place it takes.

    Without the items that are left out, each place is in a slot of the item before.
    """
    last = {kinds[name]: index for index, name in enumerate(line)}
    links = []
    start = 0
    while start < len(line):
        place = line[start]
        end = last[kinds[place]]
        links.append((line[end], place))
        start = end + 1
    return links
