"""Ranking: arrangements by their index in the order of lists, and the index of an arrangement."""

from likeholes.arrangements import check_arrangement
from likeholes.clusters import candidates_for, with_placement
from likeholes.counting import count_with
from likeholes.errors import InvalidIndex, PlacementNotMet
from likeholes.inventories import kinds_by_slot
from likeholes.placements import check_placements, names_by_slot, satisfies


def arrangement_at(inventory, index, *, required=()):
    """Return the arrangement with this index among those that satisfy the required placements."""
    check_placements(inventory, required)
    placed = names_by_slot(required)
    check_index(index, count_with(inventory, placed))
    rest = index
    for slot in kinds_by_slot(inventory):
        if slot not in placed:
            placed, rest = with_item_at(inventory, placed, slot, rest)
    return [placed[slot] for slot in kinds_by_slot(inventory)]


def index_of(inventory, arrangement, *, required=()):
    """Return the index of the arrangement among those that satisfy the required placements."""
    check_arrangement(inventory, arrangement)
    check_placements(inventory, required)
    placed = names_by_slot(required)
    if not satisfies(inventory, placed, arrangement):
        raise PlacementNotMet("the arrangement does not satisfy all required placements")
    index = 0
    for slot, name in zip(kinds_by_slot(inventory), arrangement):
        if slot not in placed:
            lesser = [other for other in candidates_for(inventory, placed, slot) if other < name]
            index = index + sum([count_with(inventory, with_placement(placed, slot, other)) for other in lesser])
            placed = with_placement(placed, slot, name)
    return index


def check_index(index, count):
    """Raise InvalidIndex if the argument is not the index of one of so many arrangements."""
    if not isinstance(index, int) or isinstance(index, bool) or not 0 <= index < count:
        raise InvalidIndex("not the index of an arrangement")


def with_item_at(inventory, placed, slot, index):
    """Return the placements with the item that the slot holds at this index, and the index among those with it."""
    extended = placed
    rest = index
    # An item is always found, because the index is less than the sum of the numbers.
    for name in candidates_for(inventory, placed, slot):
        extended = with_placement(placed, slot, name)
        number = count_with(inventory, extended)
        if rest < number:
            break
        rest = rest - number
    return (extended, rest)
