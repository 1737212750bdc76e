"""Forests: arrangements that change move by move, with pinned slots and a history."""

from likeholes.arrangements import check_arrangement
from likeholes.errors import InvalidMove, NotPinned, NothingToUndo, PinnedSlot
from likeholes.inventories import check_slot, kinds_by_slot
from likeholes.moves import arrangement_after, first_move, move_error, reverse_of
from likeholes.paths import changed_slots, find_path
from likeholes.pins import check_pins


class Forest:
    """An arrangement of an inventory, the slots that are pinned, and the moves that were applied."""

    def __init__(self, inventory, arrangement, *, pinned=()):
        check_arrangement(inventory, arrangement)
        check_pins(inventory, pinned)
        roots, items = inventory
        self._inventory = (roots, list(items))
        self._arrangement = list(arrangement)
        self._pinned = list(pinned)
        self._moves = []

    def __eq__(self, other):
        return (
            isinstance(other, Forest)
            and self._inventory == other._inventory
            and self._arrangement == other._arrangement
            and self._pinned == other._pinned
        )

    def __len__(self):
        return len(self._moves)

    def current(self):
        """Return the arrangement."""
        return list(self._arrangement)

    def pins(self):
        """Return the pinned slots in ascending order."""
        return list(self._pinned)

    def history(self):
        """Return the moves that were applied and not undone."""
        return list(self._moves)

    def apply(self, move):
        """Apply a move and append it to the history."""
        reason = move_error(self._inventory, self._arrangement, move)
        if reason is not None:
            raise InvalidMove(reason)
        self._check_loose(self._slots_of(move))
        self._arrangement = arrangement_after(self._arrangement, move)
        self._moves.append(move)

    def undo(self):
        """Revert the last move of the history and remove it from the history."""
        if not self._moves:
            raise NothingToUndo("the history is empty")
        move = self._moves[-1]
        self._check_loose(self._slots_of(move))
        self._arrangement = arrangement_after(self._arrangement, reverse_of(move))
        self._moves.pop()

    def pin(self, slot):
        """Pin a slot, which may be pinned already."""
        check_slot(self._inventory, slot)
        if slot not in self._pinned:
            self._pinned = sorted([*self._pinned, slot])

    def unpin(self, slot):
        """Release a pinned slot."""
        check_slot(self._inventory, slot)
        if slot not in self._pinned:
            raise NotPinned("the slot is not pinned")
        self._pinned.remove(slot)

    def go_to(self, target):
        """Apply the moves of a path to the target, append them to the history, and return them."""
        check_arrangement(self._inventory, target)
        self._check_loose(changed_slots(self._inventory, self._arrangement, target))
        moves = find_path(self._inventory, self._arrangement, target)
        self._arrangement = list(target)
        self._moves.extend(moves)
        return moves

    def next_move(self):
        """Return the least move that applies and names no item in a pinned slot, or None."""
        return first_move(self._inventory, self._arrangement, pinned=self._pinned)

    def _slots_of(self, move):
        """Return the slots, in order, of the items that the move names."""
        slots = kinds_by_slot(self._inventory)
        return [slot for slot, name in zip(slots, self._arrangement) if name in move[1:]]

    def _check_loose(self, slots):
        """Raise PinnedSlot with the first of the slots that is pinned, if there is one."""
        held = [slot for slot in slots if slot in self._pinned]
        if held:
            raise PinnedSlot(held[0])
