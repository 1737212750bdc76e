"""Values of every sort, and the small inventories that the tests share."""

HUGE = 10 ** 5000

INV = (("k",), [("a", "k", ("k",)), ("b", "k", ("k",)), ("c", "k", ())])


def nested(as_tuple, depth):
    """Return a tuple or a list nested to this depth."""
    value = () if as_tuple else []
    for _ in range(depth - 1):
        value = (value,) if as_tuple else [value]
    return value


def values_of_every_sort():
    """Return new values of every sort, of which the strings "a" and "k" are words."""
    return [
        None, True, False,
        0, 1, -1, 2, HUGE, -HUGE,
        "", " ", "A", "a1", "1", "a b", "a\n", "abcdefghi", "a-b", "`", "{", "a", "k", "zz",
        (), [], ("a",), ["a"], ("a", 0), ["a", 0], ("", 0), (True, False), (None,), [None],
        ("a", "k", ()), ["a", "k", ()], ("k", "k", "k", "k"), (("k",), []), [("a", "k", ())],
        (HUGE, [HUGE]), [[], ()], nested(True, 100), nested(False, 100),
    ]


def is_same(first, second):
    """Return whether the values are equal and of the same sorts at every level."""
    if type(first) is not type(second):
        return False
    if isinstance(first, (tuple, list)):
        return len(first) == len(second) and all(map(is_same, first, second))
    if isinstance(first, dict):
        return is_same(list(first.items()), list(second.items()))
    return first == second


def chain_inventory(count):
    """Return an inventory of one root slot and items with a slot each, but for the last."""
    names = [chr(ord("a") + k) for k in range(count)]
    return (("k",), [(name, "k", ("k",)) for name in names[:-1]] + [(names[-1], "k", ())])
