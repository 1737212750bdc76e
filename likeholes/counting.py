"""Counting: how many arrangements there are, and how often an item occupies a slot in them."""

from math import factorial, gcd

from likeholes.arrangements import check_name
from likeholes.certificates import first_certificate
from likeholes.clusters import free_kinds, offered_kinds
from likeholes.inventories import check_inventory, check_slot, kinds_by_name, shapes_by_name
from likeholes.placements import check_placements, names_by_slot


def count_arrangements(inventory, *, required=()):
    """Return the number of arrangements that satisfy the required placements."""
    check_placements(inventory, required)
    return count_with(inventory, names_by_slot(required))


def count_up_to_twins(inventory):
    """Return the number of arrangements if twins are not distinguished."""
    check_inventory(inventory)
    number = count_with(inventory, {})
    shapes = list(shapes_by_name(inventory).values())
    for shape in sorted(set(shapes)):
        number = number // factorial(shapes.count(shape))
    return number


def placement_share(inventory, slot, name):
    """Return the fraction of all arrangements in which the item occupies the slot, or None if there are none."""
    check_inventory(inventory)
    check_slot(inventory, slot)
    check_name(inventory, name)
    total = count_with(inventory, {})
    if total == 0:
        return None
    number = count_with(inventory, {slot: name})
    divisor = gcd(number, total)
    return (number // divisor, total // divisor)


def possible_items(inventory, slot):
    """Return the names, in order, of the items that occupy the slot in some arrangement."""
    check_inventory(inventory)
    check_slot(inventory, slot)
    return [name for name in kinds_by_name(inventory) if first_certificate(inventory, {slot: name}) is None]


def count_with(inventory, placed):
    """Return the number of arrangements that satisfy placements, which are a dict from a slot to a name."""
    if first_certificate(inventory, placed) is not None:
        return 0
    kinds = list(free_kinds(inventory, placed).values())
    number = determinant(matrix_of_kinds(inventory, placed))
    for kind in sorted(set(kinds)):
        number = number * factorial(kinds.count(kind) - 1)
    return number


def matrix_of_kinds(inventory, placed):
    """Return the rows, for the kinds of free items in order, of the matrix whose determinant tells the number."""
    free = free_kinds(inventory, placed)
    offered = offered_kinds(inventory, placed)
    kinds = sorted(set(list(free.values())))
    # A cluster counts as one item, so the slots that its free item offers are those of the item.
    slots = {kind: [] for kind in kinds}
    numbers = {kind: 0 for kind in kinds}
    for name, kind in free.items():
        slots[kind].extend(offered[name])
        numbers[kind] += 1
    rows = [[-slots[own].count(other) for other in kinds] for own in kinds]
    for k, kind in enumerate(kinds):
        rows[k][k] += numbers[kind]
    return rows


def determinant(matrix):
    """Return the determinant of a square matrix of integers, which is 1 if there are no rows."""
    rows = [list(row) for row in matrix]
    size = len(rows)
    sign = 1
    previous = 1
    for k in range(size):
        pivots = [i for i in range(k, size) if rows[i][k] != 0]
        if not pivots:
            return 0
        if pivots[0] != k:
            rows[k], rows[pivots[0]] = rows[pivots[0]], rows[k]
            sign = -sign
        for i in range(k + 1, size):
            # Divided by the pivot before, the entries stay minors of the matrix, so nothing is left over.
            for j in range(k + 1, size):
                rows[i][j] = (rows[i][j] * rows[k][k] - rows[i][k] * rows[k][j]) // previous
        previous = rows[k][k]
    return sign * previous
