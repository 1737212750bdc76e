"""Inventories: their form, their slots and the kinds of the slots."""

from likeholes.errors import InvalidInventory, UnknownSlot

LETTERS = "abcdefghijklmnopqrstuvwxyz"
MAX_LETTERS = 8
MAX_ROOTS = 4
MAX_ITEMS = 24
MAX_SLOTS = 4
MAX_KINDS = 6


def inventory_error(value):
    """Return the first reason why the value is not an inventory, or None."""
    if not isinstance(value, tuple) or len(value) != 2:
        return ("inventory",)
    roots, items = value
    if not is_tuple_of_kinds(roots, 1, MAX_ROOTS):
        return ("roots",)
    if not isinstance(items, list) or not 1 <= len(items) <= MAX_ITEMS:
        return ("items",)
    index = index_of_bad_item(items)
    if index is not None:
        return ("item", index)
    if len(distinct_kinds(value)) > MAX_KINDS:
        return ("kinds",)
    return None


def list_slots(inventory):
    """Return all slots of the inventory in order."""
    check_inventory(inventory)
    return list(kinds_by_slot(inventory))


def slot_kind(inventory, slot):
    """Return the kind that the slot accepts."""
    check_inventory(inventory)
    check_slot(inventory, slot)
    return kinds_by_slot(inventory)[slot]


def slot_surplus(inventory):
    """Return the nonzero differences, by kind, of numbers of slots and of items."""
    check_inventory(inventory)
    surplus = {kind: 0 for kind in distinct_kinds(inventory)}
    for kind in kinds_by_slot(inventory).values():
        surplus[kind] += 1
    for kind in kinds_by_name(inventory).values():
        surplus[kind] -= 1
    return {kind: number for kind, number in surplus.items() if number != 0}


def check_inventory(inventory):
    """Raise InvalidInventory if the argument is not an inventory."""
    reason = inventory_error(inventory)
    if reason is not None:
        raise InvalidInventory(reason)


def check_slot(inventory, slot):
    """Raise UnknownSlot if the argument is not a slot of a valid inventory."""
    # True and False equal 1 and 0 as keys, and lists cannot be looked up.
    if not is_slot(slot) or slot not in kinds_by_slot(inventory):
        raise UnknownSlot("not a slot of the inventory")


def kinds_by_slot(inventory):
    """Return a dict from each slot of a valid inventory, in order, to its kind."""
    roots, items = inventory
    kinds = {("", i): kind for i, kind in enumerate(roots)}
    for name, _, slots in items:
        for i, kind in enumerate(slots):
            kinds[(name, i)] = kind
    return kinds


def kinds_by_name(inventory):
    """Return a dict from each item's name in a valid inventory, in order, to its kind."""
    return {item[0]: item[1] for item in inventory[1]}


def shapes_by_name(inventory):
    """Return a dict from each item's name to its kind and its slots, in which twins are alike."""
    return {name: (kind, slots) for name, kind, slots in inventory[1]}


def distinct_kinds(inventory):
    """Return the kinds of all roots, items and slots in ascending order."""
    roots, items = inventory
    kinds = list(roots)
    for item in items:
        kinds.append(item[1])
        kinds.extend(item[2])
    return sorted(set(kinds))


def is_slot(value):
    """Return whether the value has the form of a slot, of whatever inventory."""
    if not isinstance(value, tuple) or len(value) != 2:
        return False
    owner, index = value
    return isinstance(owner, str) and isinstance(index, int) and not isinstance(index, bool)


def are_ascending_slots(inventory, values):
    """Return whether the values are slots of a valid inventory in ascending order."""
    kinds = kinds_by_slot(inventory)
    return all([is_slot(value) and value in kinds for value in values]) and are_ascending(values)


def are_ascending(values):
    """Return whether each of the values is less than the one behind it."""
    return all([earlier < later for earlier, later in zip(values, values[1:])])


def is_word(value):
    """Return whether the value has the form of a kind, which is also that of a name."""
    if not isinstance(value, str) or not 1 <= len(value) <= MAX_LETTERS:
        return False
    return all([letter in LETTERS for letter in value])


def is_tuple_of_kinds(value, least, most):
    """Return whether the value is a tuple of at least and at most so many kinds."""
    if not isinstance(value, tuple) or not least <= len(value) <= most:
        return False
    return all([is_word(kind) for kind in value])


def is_item(value):
    """Return whether the value has the form of an item."""
    if not isinstance(value, tuple) or len(value) != 3:
        return False
    name, kind, slots = value
    return is_word(name) and is_word(kind) and is_tuple_of_kinds(slots, 0, MAX_SLOTS)


def index_of_bad_item(items):
    """Return the least index of an entry that is no item or not in ascending order, or None."""
    previous = ""
    for index, item in enumerate(items):
        if not is_item(item) or item[0] <= previous:
            return index
        previous = item[0]
    return None
