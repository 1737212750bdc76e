"""Clusters of required placements, and the slots that they leave open.

The placements are passed as a dict from a slot to the name that is required in it.
"""

from likeholes.inventories import kinds_by_name, kinds_by_slot


def free_kinds(inventory, placed):
    """Return a dict from each free item's name, in order, to its kind."""
    required = list(placed.values())
    return {name: kind for name, kind in kinds_by_name(inventory).items() if name not in required}


def candidates_for(inventory, placed, slot):
    """Return the names of the free items of the kind of an open slot, in order."""
    kind = kinds_by_slot(inventory)[slot]
    free = free_kinds(inventory, placed)
    return [name for name in free if free[name] == kind]


def with_placement(placed, slot, name):
    """Return the placements and one more."""
    extended = {key: placed[key] for key in placed}
    extended[slot] = name
    return extended


def offered_kinds(inventory, placed):
    """Return a dict from "", for the root, and each free item's name to the kinds of the slots it offers."""
    kinds = kinds_by_slot(inventory)
    slots = slots_by_owner(inventory)
    offered = {}
    for owner in ["", *free_kinds(inventory, placed)]:
        members = cluster_of(slots, placed, owner)
        offered[owner] = [kinds[slot] for name in members for slot in slots[name] if slot not in placed]
    return offered


def reached_kinds(inventory, placed):
    """Return the reachable kinds in ascending order."""
    free = free_kinds(inventory, placed)
    offered = offered_kinds(inventory, placed)
    reached = []
    waiting = list(offered[""])
    while waiting:
        kind = waiting.pop()
        if kind not in reached:
            names = [name for name in free if free[name] == kind]
            # A kind without free items leads nowhere, and it is not reachable itself.
            if names:
                reached.append(kind)
            for name in names:
                waiting.extend(offered[name])
    return sorted(reached)


def slots_by_owner(inventory):
    """Return a dict from "" and each item's name to the list of its slots."""
    slots = {name: [] for name in kinds_by_name(inventory)}
    slots[""] = []
    for slot in kinds_by_slot(inventory):
        slots[slot[0]].append(slot)
    return slots


def cluster_of(slots, placed, owner):
    """Return the owner and the items that are required in its slots, in their slots, and so on."""
    cluster = []
    waiting = [owner]
    while waiting:
        name = waiting.pop()
        if name not in cluster:
            cluster.append(name)
            waiting.extend([placed[slot] for slot in slots[name] if slot in placed])
    return cluster
