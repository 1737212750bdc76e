"""Twins: items of the same kind with the same slots in the same order."""

from likeholes.arrangements import check_arrangement, children_by_owner
from likeholes.inventories import check_inventory, shapes_by_name


def are_equivalent(inventory, first, second):
    """Return whether the second arrangement can be obtained from the first one by renaming twins."""
    check_arrangement(inventory, first)
    check_arrangement(inventory, second)
    shapes = shapes_by_name(inventory)
    children = children_by_owner(inventory, first)
    others = children_by_owner(inventory, second)
    # An item in a root slot can only become the one in that slot, and their slots tell the same of further items.
    waiting = list(zip(children[""], others[""]))
    while waiting:
        name, other = waiting.pop()
        if shapes[name] != shapes[other]:
            return False
        waiting.extend(list(zip(children[name], others[other])))
    return True


def splits_evenly(inventory):
    """Return whether the inventory has two twins with an even number of slots."""
    check_inventory(inventory)
    shapes = list(shapes_by_name(inventory).values())
    return any([shapes.count((kind, slots)) > 1 and len(slots) % 2 == 0 for kind, slots in shapes])
