"""Required placements: whether an arrangement satisfies them, and why none does."""

from likeholes.arrangements import arrangement_error
from likeholes.certificates import first_certificate, is_certificate
from likeholes.clusters import candidates_for, reached_kinds, with_placement
from likeholes.errors import InvalidPlacements
from likeholes.inventories import are_ascending_slots, check_inventory, kinds_by_name, kinds_by_slot


def reachable_kinds(inventory, *, required=()):
    """Return the reachable kinds in ascending order."""
    check_placements(inventory, required)
    return reached_kinds(inventory, names_by_slot(required))


def find_arrangement(inventory, *, required=()):
    """Return an arrangement that satisfies the required placements, or a certificate that there is none."""
    check_placements(inventory, required)
    placed = names_by_slot(required)
    certificate = first_certificate(inventory, placed)
    if certificate is not None:
        return ("impossible", certificate)
    return ("arrangement", completed(inventory, placed))


def check_answer(inventory, value, *, required=()):
    """Return whether the value is a right answer of the form that find_arrangement returns."""
    check_placements(inventory, required)
    if not isinstance(value, tuple) or len(value) != 2:
        return False
    word, proof = value
    placed = names_by_slot(required)
    if word == "arrangement":
        return arrangement_error(inventory, proof) is None and satisfies(inventory, placed, proof)
    return word == "impossible" and is_certificate(inventory, placed, proof)


def check_placements(inventory, required):
    """Raise an error if the arguments are not an inventory and required placements."""
    check_inventory(inventory)
    if not isinstance(required, (list, tuple)) or not are_placements(inventory, required):
        raise InvalidPlacements("not a list or tuple of required placements in ascending order of the slots")


def are_placements(inventory, values):
    """Return whether the values are tuples of a slot, in ascending order, and a name."""
    if not all([isinstance(value, tuple) and len(value) == 2 for value in values]):
        return False
    names = list(kinds_by_name(inventory))
    if not all([value[1] in names for value in values]):
        return False
    return are_ascending_slots(inventory, [value[0] for value in values])


def names_by_slot(required):
    """Return a dict from each slot to the name that is required in it."""
    return {slot: name for slot, name in required}


def satisfies(inventory, placed, arrangement):
    """Return whether the arrangement has the required items in their slots."""
    return all([placed.get(slot, name) == name for slot, name in zip(kinds_by_slot(inventory), arrangement)])


def completed(inventory, placed):
    """Return an arrangement that satisfies placements which have no valid certificate."""
    filled = placed
    for slot in kinds_by_slot(inventory):
        if slot not in filled:
            filled = with_first_fitting(inventory, filled, slot)
    return [filled[slot] for slot in kinds_by_slot(inventory)]


def with_first_fitting(inventory, placed, slot):
    """Return the placements with the first free item in the open slot that leaves no valid certificate."""
    extended = placed
    # One of them fits, because an arrangement exists where no certificate is valid.
    for name in candidates_for(inventory, placed, slot):
        extended = with_placement(placed, slot, name)
        if first_certificate(inventory, extended) is None:
            break
    return extended
