"""Certificates: proofs that no arrangement satisfies the required placements.

The placements are passed as a dict from a slot to the name that is required in it.
"""

from likeholes.clusters import free_kinds, offered_kinds, reached_kinds
from likeholes.inventories import are_ascending, is_slot, kinds_by_name, kinds_by_slot, slot_surplus


def first_certificate(inventory, placed):
    """Return the valid certificate that comes first, or None."""
    surplus = list(slot_surplus(inventory))
    if surplus:
        return ("count", surplus[0])
    slots = misfit_slots(inventory, placed)
    if slots:
        return ("kind", min(slots))
    names = repeated_names(placed)
    if names:
        return ("twice", min(names))
    cycle = first_cycle(placed)
    if cycle:
        return ("cycle", cycle)
    kinds = unreached_kinds(inventory, placed)
    if kinds:
        return ("unreachable", kinds)
    return None


def is_certificate(inventory, placed, value):
    """Return whether the value is a valid certificate."""
    if not isinstance(value, tuple) or len(value) != 2:
        return False
    word, proof = value
    if word == "count":
        return isinstance(proof, str) and proof in slot_surplus(inventory)
    if word == "kind":
        return is_slot(proof) and proof in misfit_slots(inventory, placed)
    if word == "twice":
        return proof in repeated_names(placed)
    if word == "cycle":
        return is_cycle(placed, proof)
    if word == "unreachable":
        return are_cut_off(inventory, placed, proof)
    return False


def misfit_slots(inventory, placed):
    """Return the slots whose required items do not have the slots' kinds."""
    kinds = kinds_by_name(inventory)
    accepted = kinds_by_slot(inventory)
    return [slot for slot, name in placed.items() if kinds[name] != accepted[slot]]


def repeated_names(placed):
    """Return the names of the items that are required in at least two slots."""
    names = list(placed.values())
    return [name for name in names if names.count(name) > 1]


def first_cycle(placed):
    """Return the cycle with the least first name, or [], if no item is required in two slots."""
    owners = {name: slot[0] for slot, name in placed.items()}
    for first in sorted(owners):
        cycle = [first]
        # The walk may also end at the root or a free item, or lead into a cycle that it did not start in.
        while cycle[-1] in owners and owners[cycle[-1]] not in cycle:
            cycle.append(owners[cycle[-1]])
        if owners.get(cycle[-1]) == first:
            return cycle
    return []


def is_cycle(placed, value):
    """Return whether the value is the list of names of a valid certificate."""
    if not isinstance(value, list) or not value or not all([isinstance(name, str) for name in value]):
        return False
    if len(set(value)) != len(value) or value[0] != min(value):
        return False
    pairs = [(name, slot[0]) for slot, name in placed.items()]
    return all([pair in pairs for pair in zip(value, [*value[1:], value[0]])])


def unreached_kinds(inventory, placed):
    """Return the kinds of free items that are not reachable, in ascending order."""
    reached = reached_kinds(inventory, placed)
    kinds = list(free_kinds(inventory, placed).values())
    return sorted({kind for kind in kinds if kind not in reached})


def are_cut_off(inventory, placed, value):
    """Return whether the value is the list of kinds of a valid certificate."""
    free = free_kinds(inventory, placed)
    kinds = list(free.values())
    if not isinstance(value, list) or not value or not all([kind in kinds for kind in value]):
        return False
    if not are_ascending(value):
        return False
    offered = offered_kinds(inventory, placed)
    outside = ["", *[name for name in free if free[name] not in value]]
    return not any([kind in value for name in outside for kind in offered[name]])
