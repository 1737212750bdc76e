"""Moves: which ones apply to an arrangement, what they do, and how they are undone."""

from likeholes.arrangements import check_arrangement, is_below, parents_by_name
from likeholes.errors import InvalidMoves
from likeholes.inventories import kinds_by_name
from likeholes.pins import check_pins, pinned_names

MAX_MOVES = 500


def move_error(inventory, arrangement, value):
    """Return the first reason why the value is not a move that applies, or None."""
    check_arrangement(inventory, arrangement)
    return reason_against(inventory, arrangement, value)


def moves_error(inventory, arrangement, value):
    """Return the first reason why the value is not a move list, or None."""
    check_arrangement(inventory, arrangement)
    if not isinstance(value, list) or len(value) > MAX_MOVES:
        return ("moves",)
    current = arrangement
    for index, move in enumerate(value):
        reason = reason_against(inventory, current, move)
        if reason is not None:
            return ("move", index, reason)
        current = arrangement_after(current, move)
    return None


def apply_moves(inventory, arrangement, moves):
    """Return the arrangement after all moves."""
    check_moves(inventory, arrangement, moves)
    current = list(arrangement)
    for move in moves:
        current = arrangement_after(current, move)
    return current


def reverse_moves(inventory, arrangement, moves):
    """Return the move list that undoes the moves, the last move first."""
    check_moves(inventory, arrangement, moves)
    return [reverse_of(move) for move in moves[::-1]]


def has_even_swaps(inventory, first, second):
    """Return whether the move lists from first to second contain an even number of swaps."""
    check_arrangement(inventory, first)
    check_arrangement(inventory, second)
    # Segment swaps are even permutations, so the exchanges that sort the names tell as much as moves.
    current = list(first)
    is_even = True
    for index, name in enumerate(second):
        if current[index] != name:
            current[current.index(name)] = current[index]
            current[index] = name
            is_even = not is_even
    return is_even


def first_move(inventory, arrangement, *, pinned=()):
    """Return the least move that applies and names no item in a pinned slot, or None."""
    check_arrangement(inventory, arrangement)
    check_pins(inventory, pinned)
    kinds = kinds_by_name(inventory)
    parents = parents_by_name(inventory, arrangement)
    held = pinned_names(inventory, arrangement, pinned)
    names = [name for name in kinds if name not in held]
    move = first_segment_swap(kinds, parents, names)
    if move is None:
        move = first_swap(kinds, parents, names)
    return move


def check_moves(inventory, arrangement, moves):
    """Raise an error if the arguments are not an inventory, an arrangement and a move list."""
    reason = moves_error(inventory, arrangement, moves)
    if reason is not None:
        raise InvalidMoves(reason)


def reason_against(inventory, arrangement, value):
    """Return what move_error returns for a valid inventory and arrangement."""
    kinds = kinds_by_name(inventory)
    if not is_move_of(kinds, value):
        return ("move",)
    if not has_matching_kinds(kinds, value):
        return ("kinds",)
    if not has_fitting_positions(parents_by_name(inventory, arrangement), value):
        return ("position",)
    return None


def is_move_of(kinds, value):
    """Return whether the value has the form of a move of the items, whose kinds are given by name."""
    if not isinstance(value, tuple) or len(value) not in (3, 5):
        return False
    if value[0] != ("swap" if len(value) == 3 else "segments"):
        return False
    if not all([isinstance(name, str) and name in kinds for name in value[1:]]):
        return False
    if value[0] == "swap":
        return value[1] != value[2]
    _, x, v, y, w = value
    return x not in (v, y, w) and w not in (v, y)


def has_matching_kinds(kinds, move):
    """Return whether the items that take each other's place have one kind."""
    if move[0] == "swap":
        return kinds[move[1]] == kinds[move[2]]
    _, x, v, y, w = move
    return kinds[x] == kinds[y] and kinds[v] == kinds[w]


def has_fitting_positions(parents, move):
    """Return whether the items of a swap are independent, or those of a segment swap in order."""
    if move[0] == "swap":
        return are_independent(parents, move[1], move[2])
    _, x, v, y, w = move
    return is_below(parents, v, x) and (y == v or is_below(parents, y, v)) and is_below(parents, w, y)


def are_independent(parents, a, b):
    """Return whether neither of two distinct items is a descendant of the other."""
    return not is_below(parents, a, b) and not is_below(parents, b, a)


def arrangement_after(arrangement, move):
    """Return the arrangement after a move that applies."""
    successors = successors_in(move)
    return [successors.get(name, name) for name in arrangement]


def successors_in(move):
    """Return a dict from each name in a move to the name of the item that takes its slot."""
    if move[0] == "swap":
        _, a, b = move
        return {a: b, b: a}
    _, x, v, y, w = move
    if y == v:
        return {x: y, y: w, w: x}
    return {x: y, y: x, v: w, w: v}


def reverse_of(move):
    """Return the move that undoes a move."""
    if move[0] == "swap":
        _, a, b = move
        return ("swap", a, b)
    _, x, v, y, w = move
    if y == v:
        return ("segments", y, x, x, w)
    return ("segments", y, v, x, w)


def first_segment_swap(kinds, parents, names):
    """Return the least segment swap that applies and has only these names, or None."""
    # The names are in ascending order, so each list below is, too.
    below = {name: [other for other in names if is_below(parents, other, name)] for name in names}
    for x in names:
        for v in below[x]:
            seconds = [name for name in sorted([v, *below[v]]) if kinds[name] == kinds[x]]
            for y in seconds:
                rests = [name for name in below[y] if kinds[name] == kinds[v]]
                if rests:
                    return ("segments", x, v, y, rests[0])
    return None


def first_swap(kinds, parents, names):
    """Return the least swap that applies and has only these names, or None."""
    for a in names:
        for b in names:
            if a != b and kinds[a] == kinds[b] and are_independent(parents, a, b):
                return ("swap", a, b)
    return None
