"""Arrangements: their form, and how their items are nested."""

from likeholes.errors import InvalidArrangement, UnknownItem
from likeholes.inventories import check_inventory, kinds_by_name, kinds_by_slot


def arrangement_error(inventory, value):
    """Return the first reason why the value is not an arrangement, or None."""
    check_inventory(inventory)
    if not isinstance(value, list) or len(value) != len(kinds_by_slot(inventory)):
        return ("arrangement",)
    index = index_of_bad_entry(inventory, value)
    if index is not None:
        return ("slot", index)
    missing = [name for name in kinds_by_name(inventory) if name not in value]
    if missing:
        return ("missing", missing[0])
    parents = parents_by_name(inventory, value)
    unrooted = [name for name in kinds_by_name(inventory) if not is_rooted(parents, name)]
    if unrooted:
        return ("cycle", unrooted[0])
    return None


def slot_of(inventory, arrangement, name):
    """Return the slot that the item occupies."""
    check_arrangement(inventory, arrangement)
    check_name(inventory, name)
    return list(kinds_by_slot(inventory))[arrangement.index(name)]


def ancestors_of(inventory, arrangement, name):
    """Return the names of all ancestors of the item, starting at the root."""
    check_arrangement(inventory, arrangement)
    check_name(inventory, name)
    return chain_above(parents_by_name(inventory, arrangement), name)


def descendants_of(inventory, arrangement, name):
    """Return the names of all descendants of the item in depth-first order."""
    check_arrangement(inventory, arrangement)
    check_name(inventory, name)
    children = children_by_owner(inventory, arrangement)
    descendants = []
    # The next item is taken from the end, so siblings wait in reverse order.
    waiting = children[name][::-1]
    while waiting:
        current = waiting.pop()
        descendants.append(current)
        waiting.extend(children[current][::-1])
    return descendants


def check_arrangement(inventory, arrangement):
    """Raise an error if the arguments are not an inventory and an arrangement of it."""
    reason = arrangement_error(inventory, arrangement)
    if reason is not None:
        raise InvalidArrangement(reason)


def check_name(inventory, name):
    """Raise UnknownItem if the argument is not the name of an item."""
    # A list is searched because not every value can be looked up in a dict.
    if name not in list(kinds_by_name(inventory)):
        raise UnknownItem("not the name of an item of the inventory")


def index_of_bad_entry(inventory, entries):
    """Return the least index of an entry that is no item for its slot or comes again, or None."""
    names = kinds_by_name(inventory)
    seen = set()
    for index, kind in enumerate(kinds_by_slot(inventory).values()):
        name = entries[index]
        if not isinstance(name, str) or name in seen or names.get(name) != kind:
            return index
        seen.add(name)
    return None


def parents_by_name(inventory, arrangement):
    """Return a dict from each item's name to its parent's, which is "" in a root slot."""
    return {name: slot[0] for slot, name in zip(kinds_by_slot(inventory), arrangement)}


def children_by_owner(inventory, arrangement):
    """Return a dict from "" and each item's name to the list of names in its slots."""
    children = {name: [] for name in kinds_by_name(inventory)}
    children[""] = []
    for slot, name in zip(kinds_by_slot(inventory), arrangement):
        children[slot[0]].append(name)
    return children


def is_rooted(parents, name):
    """Return whether the chain of parents ends at a root slot."""
    # A chain that ends has no item twice, so it has at most as many steps as there are items.
    for _ in range(len(parents)):
        name = parents[name]
        if name == "":
            return True
    return False


def chain_above(parents, name):
    """Return the names of all ancestors of an item of an arrangement, starting at the root."""
    ancestors = []
    parent = parents[name]
    while parent != "":
        ancestors.append(parent)
        parent = parents[parent]
    return ancestors[::-1]


def is_below(parents, name, other):
    """Return whether the first item is a descendant of the other one."""
    return other in chain_above(parents, name)
