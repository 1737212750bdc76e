"""What the document says of arrangements, moves and placements, written once more from its words."""

import itertools
import math

from likeholes.inventories import list_slots, slot_kind

WORDS = ("count", "kind", "twice", "cycle", "unreachable")


def kinds_of_items(inventory):
    return {item[0]: item[1] for item in inventory[1]}


def reference_parents(inventory, names):
    """Return the parent of each placed item, and "" for an item in a root slot."""
    return {name: slot[0] for slot, name in zip(list_slots(inventory), names)}


def reference_arrangement_error(inventory, value):
    """Return what point 11 says, by its words."""
    slots = list_slots(inventory)
    kinds = kinds_of_items(inventory)
    if type(value) is not list or len(value) != len(slots):
        return ("arrangement",)
    for k, slot in enumerate(slots):
        is_name = type(value[k]) is str and value[k] in kinds
        if not is_name or kinds[value[k]] != slot_kind(inventory, slot) or value[k] in value[:k]:
            return ("slot", k)
    for name in sorted(kinds):
        if name not in value:
            return ("missing", name)
    parents = reference_parents(inventory, value)
    rooted = {""}
    for _ in kinds:
        rooted = rooted | {name for name in kinds if parents[name] in rooted}
    for name in sorted(kinds):
        if name not in rooted:
            return ("cycle", name)
    return None


def reference_ancestors(parents, name):
    if parents[name] == "":
        return []
    return reference_ancestors(parents, parents[name]) + [parents[name]]


def reference_descendants(inventory, arrangement, name):
    found = []
    for slot, child in zip(list_slots(inventory), arrangement):
        if slot[0] == name:
            found += [child] + reference_descendants(inventory, arrangement, child)
    return found


def orders(inventory):
    """Return the lists with one item for each slot, without regard to kinds."""
    names = [item[0] for item in inventory[1]]
    return [list(order) for order in itertools.permutations(names, min(len(names), len(list_slots(inventory))))]


def arrangements(inventory):
    return [order for order in orders(inventory) if reference_arrangement_error(inventory, order) is None]


def has_move_form(inventory, value):
    """Return whether the value is a tuple of a word and the right number of names."""
    if type(value) is not tuple or not value or type(value[0]) is not str:
        return False
    if {"swap": 3, "segments": 5}.get(value[0]) != len(value):
        return False
    if any(type(name) is not str or name not in kinds_of_items(inventory) for name in value[1:]):
        return False
    for i, j in itertools.combinations(range(1, len(value)), 2):
        if value[i] == value[j] and (value[0], i, j) != ("segments", 2, 3):
            return False
    return True


def reference_move_error(inventory, arrangement, value):
    """Return what point 16 says, by its words."""
    if not has_move_form(inventory, value):
        return ("move",)
    kinds = kinds_of_items(inventory)
    parents = reference_parents(inventory, arrangement)
    above = {name: reference_ancestors(parents, name) for name in arrangement}
    if value[0] == "swap":
        _, a, b = value
        if kinds[a] != kinds[b]:
            return ("kinds",)
        return ("position",) if a in above[b] or b in above[a] else None
    _, x, v, y, w = value
    if (kinds[x], kinds[v]) != (kinds[y], kinds[w]):
        return ("kinds",)
    in_order = x in above[v] and (v == y or v in above[y]) and y in above[w]
    return None if in_order else ("position",)


def reference_after(inventory, arrangement, move):
    """Return the arrangement after a move, in which the pieces of a path are put together anew."""
    content = dict(zip(list_slots(inventory), arrangement))
    slots = {name: slot for slot, name in content.items()}
    if move[0] == "swap":
        _, a, b = move
        content[slots[a]], content[slots[b]] = b, a
        return list(content.values())
    _, x, v, y, w = move
    path = reference_ancestors(reference_parents(inventory, arrangement), w) + [w]
    start, middle, second, rest = [path.index(name) for name in (x, v, y, w)]
    # Each piece leaves by the slot in which the item behind it was on the old path.
    slot = slots[x]
    for piece in (range(second, rest), range(middle, second), range(start, middle)):
        if len(piece) > 0:
            content[slot] = path[piece[0]]
            slot = slots[path[piece[-1] + 1]]
    content[slot] = w
    return list(content.values())


def reference_after_all(inventory, arrangement, moves):
    for move in moves:
        if reference_move_error(inventory, arrangement, move) is not None:
            raise AssertionError(move)
        arrangement = reference_after(inventory, arrangement, move)
    return arrangement


def moves_that_apply(inventory, arrangement):
    """Return all moves that apply, in ascending order, from all pairs and quadruples of names."""
    names = [item[0] for item in inventory[1]]
    swaps = [("swap",) + pair for pair in itertools.product(names, repeat=2)]
    segments = [("segments",) + names_of for names_of in itertools.product(names, repeat=4)]
    return [move for move in sorted(swaps + segments) if reference_move_error(inventory, arrangement, move) is None]


def reference_reverse(move):
    """Return the form that point 19 writes."""
    if move[0] == "swap":
        return move
    _, x, v, y, w = move
    return ("segments", y, x, x, w) if y == v else ("segments", y, v, x, w)


def reference_first_move(inventory, arrangement, loose):
    """Return the least move with these names, from quadruples that are tried in order."""
    kinds = {item[0]: item[1] for item in inventory[1]}
    for x, v in itertools.permutations(loose, 2):
        if reference_move_error(inventory, arrangement, ("swap", x, v)) is None or (
            not is_reference_below(inventory, arrangement, v, x)
        ):
            continue
        for y in loose:
            if kinds[y] == kinds[x] and (y == v or is_reference_below(inventory, arrangement, y, v)):
                for w in loose:
                    if reference_move_error(inventory, arrangement, ("segments", x, v, y, w)) is None:
                        return ("segments", x, v, y, w)
    for a, b in itertools.permutations(loose, 2):
        if reference_move_error(inventory, arrangement, ("swap", a, b)) is None:
            return ("swap", a, b)
    return None


def is_reference_below(inventory, arrangement, name, other):
    while name != "":
        name = list_slots(inventory)[arrangement.index(name)][0]
        if name == other:
            return True
    return False


def owners_of(required, name):
    return [slot[0] for slot, other in required if other == name]


def is_in_cluster(required, owner, name, passed=()):
    """Return whether the item belongs to the cluster of the owner: another item, or "" for the root."""
    above = owners_of(required, name)
    if owner in above:
        return True
    ahead = [other for other in above if other not in ("",) + passed]
    return any(is_in_cluster(required, owner, other, passed + (name,)) for other in ahead)


def open_slots_of_cluster(inventory, required, owner):
    taken = [slot for slot, _ in required]
    members = [owner] + [name for name in kinds_of_items(inventory) if is_in_cluster(required, owner, name)]
    return [slot for slot in list_slots(inventory) if slot[0] in members and slot not in taken]


def reference_offers(inventory, required):
    """Return the kinds of the slots that the root, as "", and each free item offer."""
    placed = [name for _, name in required]
    owners = [""] + [name for name in kinds_of_items(inventory) if name not in placed]
    return {
        owner: {slot_kind(inventory, slot) for slot in open_slots_of_cluster(inventory, required, owner)}
        for owner in owners
    }


def reference_free_kinds(inventory, required):
    placed = [name for _, name in required]
    return {kind for name, kind in kinds_of_items(inventory).items() if name not in placed}


def reference_reachable(inventory, required):
    """Return what points 25 and 26 say, by their words."""
    offers = reference_offers(inventory, required)
    kinds = kinds_of_items(inventory)
    free = reference_free_kinds(inventory, required)
    reachable = offers[""] & free
    for _ in range(6):
        for name in list(offers)[1:]:
            if kinds[name] in reachable:
                reachable = reachable | (offers[name] & free)
    return sorted(reachable)


def is_valid_certificate(inventory, required, value):
    """Return whether the value is a certificate whose sentence in point 27 is true."""
    if type(value) is not tuple or len(value) != 2 or type(value[0]) is not str:
        return False
    word, proof = value
    kinds = kinds_of_items(inventory)
    if word == "count":
        number = [slot_kind(inventory, slot) for slot in list_slots(inventory)].count(proof)
        return type(proof) is str and number != list(kinds.values()).count(proof)
    if word == "kind":
        if type(proof) is not tuple or [type(part) for part in proof] != [str, int]:
            return False
        return any(slot == proof and kinds[name] != slot_kind(inventory, slot) for slot, name in required)
    if word == "twice":
        return type(proof) is str and len(owners_of(required, proof)) >= 2
    if type(proof) is not list or not proof or any(type(part) is not str for part in proof):
        return False
    if word == "cycle":
        if sorted(set(proof)) != sorted(proof) or proof[0] != sorted(proof)[0]:
            return False
        return all(following in owners_of(required, name) for name, following in zip(proof, proof[1:] + proof[:1]))
    if word == "unreachable":
        free = reference_free_kinds(inventory, required)
        if sorted(set(proof)) != proof or not set(proof) <= free:
            return False
        offers = reference_offers(inventory, required)
        return not any(set(proof) & offered for owner, offered in offers.items() if kinds.get(owner) not in proof)
    return False


def candidate_certificates(inventory):
    """Return tuples of every form of certificate with kinds, slots and names of the inventory."""
    of_slots = {slot_kind(inventory, slot) for slot in list_slots(inventory)}
    kinds = sorted(of_slots | set(kinds_of_items(inventory).values()))
    names = [item[0] for item in inventory[1]]
    found = [("count", kind) for kind in kinds + ["zz"]]
    found += [("kind", slot) for slot in list_slots(inventory) + [("zz", 0), ("", 9)]]
    found += [("twice", name) for name in names + ["zz"]]
    for count in range(len(names) + 1):
        found += [("cycle", list(some)) for some in itertools.permutations(names, count)]
    for count in range(len(kinds) + 1):
        found += [("unreachable", list(some)) for some in itertools.permutations(kinds, count)]
    return found


def expected_certificate(inventory, required, candidates):
    """Return the certificate that point 28 asks for, or None."""
    for word in WORDS:
        of_form = [value for value in candidates if value[0] == word]
        valid = [value for value in of_form if is_valid_certificate(inventory, required, value)]
        if valid and word != "unreachable":
            return min(valid)
        if valid:
            reachable = set(reference_reachable(inventory, required))
            return (word, sorted(reference_free_kinds(inventory, required) - reachable))
    return None


def satisfying(inventory, required, all_arrangements):
    """Return the arrangements that satisfy the required placements."""
    slots = list_slots(inventory)
    return [
        arrangement for arrangement in all_arrangements
        if all(arrangement[slots.index(slot)] == name for slot, name in required)
    ]


def reference_count(inventory, required):
    """Return what the formula of point 30 says of required placements that some arrangement satisfies."""
    placed = [name for _, name in required]
    free = {name: kind for name, kind in kinds_of_items(inventory).items() if name not in placed}
    kinds = sorted(set(free.values()))
    numbers = {kind: list(free.values()).count(kind) for kind in kinds}
    slots = dict.fromkeys(itertools.product(kinds, repeat=2), 0)
    for name, kind in free.items():
        for slot in open_slots_of_cluster(inventory, required, name):
            slots[kind, slot_kind(inventory, slot)] += 1
    rows = [[numbers[one] * (one == other) - slots[one, other] for other in kinds] for one in kinds]
    factors = [math.factorial(number - 1) for number in numbers.values()]
    return math.prod(factors) * reference_determinant(rows)


def reference_determinant(rows):
    """Return the determinant, as the sum over all permutations of the columns."""
    total = 0
    for columns in itertools.permutations(range(len(rows))):
        inversions = sum(one > other for one, other in itertools.combinations(columns, 2))
        total += (-1) ** inversions * math.prod(rows[k][column] for k, column in enumerate(columns))
    return total


def twin_classes(inventory):
    """Return the lists of names of items that have the same kind and the same slots in the same order."""
    names = {}
    for name, kind, slots in inventory[1]:
        names.setdefault((kind, slots), []).append(name)
    return list(names.values())


def twin_permutations(inventory):
    """Return all dicts that map each item to itself or to a twin, no two to the same."""
    classes = twin_classes(inventory)
    found = []
    for orders_of_classes in itertools.product(*[itertools.permutations(names) for names in classes]):
        pairs = [zip(names, order) for names, order in zip(classes, orders_of_classes)]
        found.append(dict(itertools.chain(*pairs)))
    return found


def with_new_names(inventory, arrangement, new_names):
    """Return the arrangement in which both the items and the owners of the slots have new names."""
    content = {
        (new_names.get(owner, owner), k): new_names[name]
        for (owner, k), name in zip(list_slots(inventory), arrangement)
    }
    return [content[slot] for slot in list_slots(inventory)]


def nesting_of(inventory, arrangement, owner=""):
    """Return how kinds and slots are nested below the owner, in which names do not matter."""
    shapes = {name: (kind, slots) for name, kind, slots in inventory[1]}
    content = dict(zip(list_slots(inventory), arrangement))
    below = [name for slot, name in content.items() if slot[0] == owner]
    return tuple(shapes[name] + (nesting_of(inventory, arrangement, name),) for name in below)
