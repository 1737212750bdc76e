"""Pinned slots: their form, and the items in them."""

from likeholes.errors import InvalidPins
from likeholes.inventories import are_ascending_slots, kinds_by_slot


def check_pins(inventory, pinned):
    """Raise InvalidPins if the argument is not a list or tuple of slots in ascending order."""
    if not isinstance(pinned, (list, tuple)) or not are_ascending_slots(inventory, pinned):
        raise InvalidPins("not a list or tuple of slots of the inventory in ascending order")


def pinned_names(inventory, arrangement, pinned):
    """Return the names of the items in the pinned slots."""
    return [name for slot, name in zip(kinds_by_slot(inventory), arrangement) if slot in pinned]
