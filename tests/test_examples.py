"""The examples of the document, as it prints them: a statement after each prompt, and the answer to the last one."""

import unittest

from likeholes.errors import LikeholesError
from tests.values import is_same

EXAMPLES = """
>>> from likeholes.inventories import inventory_error
>>> inventory_error((('k',), [('b', 'k', ()), ('a', 'k', ())]))
('item', 1)

>>> from likeholes.inventories import list_slots
>>> INV = (('k',), [('a', 'k', ('k',)), ('b', 'k', ('k',)), ('c', 'k', ())])
>>> list_slots(INV)
[('', 0), ('a', 0), ('b', 0)]

>>> from likeholes.inventories import slot_kind
>>> INV = (('k',), [('a', 'k', ('k',)), ('b', 'k', ('k',)), ('c', 'k', ())])
>>> slot_kind(INV, ('c', 0))
raises UnknownSlot

>>> from likeholes.inventories import slot_surplus
>>> slot_surplus((('k', 'm'), [('a', 'k', ('k',))]))
{'k': 1, 'm': 1}

>>> from likeholes.arrangements import arrangement_error
>>> INV = (('k',), [('a', 'k', ('k',)), ('b', 'k', ('k',)), ('c', 'k', ())])
>>> arrangement_error(INV, ['c', 'a', 'b'])
('cycle', 'a')

>>> from likeholes.arrangements import slot_of
>>> INV = (('k',), [('a', 'k', ('k',)), ('b', 'k', ('k',)), ('c', 'k', ())])
>>> slot_of(INV, ['a', 'b', 'c'], 'c')
('b', 0)

>>> from likeholes.arrangements import ancestors_of
>>> INV = (('k',), [('a', 'k', ('k',)), ('b', 'k', ('k',)), ('c', 'k', ())])
>>> ancestors_of(INV, ['a', 'b', 'c'], 'c')
['a', 'b']

>>> from likeholes.arrangements import descendants_of
>>> INV = (('k',), [('a', 'k', ('k',)), ('b', 'k', ('k',)), ('c', 'k', ())])
>>> descendants_of(INV, ['a', 'b', 'c'], 'a')
['b', 'c']

>>> from likeholes.moves import move_error
>>> INV = (('k',), [('a', 'k', ('k',)), ('b', 'k', ('k',)), ('c', 'k', ())])
>>> move_error(INV, ['a', 'b', 'c'], ('swap', 'a', 'b'))
('position',)

>>> from likeholes.moves import moves_error
>>> INV = (('k',), [('a', 'k', ('k',)), ('b', 'k', ('k',)), ('c', 'k', ())])
>>> moves_error(INV, ['a', 'b', 'c'], [('segments', 'a', 'b', 'b', 'c'), ('swap', 'a', 'b')])
('move', 1, ('position',))

>>> from likeholes.moves import apply_moves
>>> INV = (('k',), [('a', 'k', ('k',)), ('b', 'k', ('k',)), ('c', 'k', ())])
>>> apply_moves(INV, ['a', 'b', 'c'], [('segments', 'a', 'b', 'b', 'c')])
['b', 'c', 'a']

>>> from likeholes.moves import reverse_moves
>>> INV = (('k',), [('a', 'k', ('k',)), ('b', 'k', ('k',)), ('c', 'k', ())])
>>> reverse_moves(INV, ['a', 'b', 'c'], [('segments', 'a', 'b', 'b', 'c')])
[('segments', 'b', 'a', 'a', 'c')]

>>> from likeholes.moves import has_even_swaps
>>> INV = (('k',), [('a', 'k', ('k',)), ('b', 'k', ('k',)), ('c', 'k', ())])
>>> has_even_swaps(INV, ['a', 'b', 'c'], ['b', 'c', 'a'])
True

>>> from likeholes.moves import first_move
>>> INV = (('k',), [('a', 'k', ('k',)), ('b', 'k', ('k',)), ('c', 'k', ())])
>>> first_move(INV, ['a', 'b', 'c'], pinned=[('', 0)])
None

>>> from likeholes.paths import find_path
>>> INV = (('k',), [('a', 'k', ('k',)), ('b', 'k', ('k',)), ('c', 'k', ())])
>>> find_path(INV, ['a', 'b', 'c'], ['b', 'c', 'a'])
[('segments', 'a', 'b', 'b', 'c')]

>>> from likeholes.paths import check_path
>>> INV = (('k',), [('a', 'k', ('k',)), ('b', 'k', ('k',)), ('c', 'k', ())])
>>> check_path(INV, ['a', 'b', 'c'], ['b', 'c', 'a'], ('moves', []))
('target',)

>>> from likeholes.placements import reachable_kinds
>>> SPLIT = (('k',), [('a', 'k', ()), ('b', 'm', ('m',))])
>>> reachable_kinds(SPLIT)
['k']

>>> from likeholes.placements import find_arrangement
>>> SPLIT = (('k',), [('a', 'k', ()), ('b', 'm', ('m',))])
>>> find_arrangement(SPLIT)
('impossible', ('unreachable', ['m']))

>>> from likeholes.placements import check_answer
>>> INV = (('k',), [('a', 'k', ('k',)), ('b', 'k', ('k',)), ('c', 'k', ())])
>>> check_answer(INV, ('arrangement', ['b', 'c', 'a']), required=[(('a', 0), 'c')])
True

>>> from likeholes.counting import count_arrangements
>>> INV = (('k',), [('a', 'k', ('k',)), ('b', 'k', ('k',)), ('c', 'k', ())])
>>> count_arrangements(INV)
2

>>> from likeholes.counting import count_up_to_twins
>>> INV = (('k',), [('a', 'k', ('k',)), ('b', 'k', ('k',)), ('c', 'k', ())])
>>> count_up_to_twins(INV)
1

>>> from likeholes.counting import placement_share
>>> INV = (('k',), [('a', 'k', ('k',)), ('b', 'k', ('k',)), ('c', 'k', ())])
>>> placement_share(INV, ('', 0), 'a')
(1, 2)

>>> from likeholes.counting import possible_items
>>> INV = (('k',), [('a', 'k', ('k',)), ('b', 'k', ('k',)), ('c', 'k', ())])
>>> possible_items(INV, ('a', 0))
['b', 'c']

>>> from likeholes.ranking import arrangement_at
>>> INV = (('k',), [('a', 'k', ('k',)), ('b', 'k', ('k',)), ('c', 'k', ())])
>>> arrangement_at(INV, 1)
['b', 'c', 'a']

>>> from likeholes.ranking import index_of
>>> INV = (('k',), [('a', 'k', ('k',)), ('b', 'k', ('k',)), ('c', 'k', ())])
>>> index_of(INV, ['b', 'c', 'a'], required=[(('', 0), 'a')])
raises PlacementNotMet

>>> from likeholes.twins import are_equivalent
>>> INV = (('k',), [('a', 'k', ('k',)), ('b', 'k', ('k',)), ('c', 'k', ())])
>>> are_equivalent(INV, ['a', 'b', 'c'], ['b', 'c', 'a'])
True

>>> from likeholes.twins import splits_evenly
>>> INV = (('k',), [('a', 'k', ('k',)), ('b', 'k', ('k',)), ('c', 'k', ())])
>>> splits_evenly(INV)
False

>>> from likeholes.forests import Forest
>>> INV = (('k',), [('a', 'k', ('k',)), ('b', 'k', ('k',)), ('c', 'k', ())])
>>> len(Forest(INV, ['a', 'b', 'c']))
0

>>> from likeholes.forests import Forest
>>> INV = (('k',), [('a', 'k', ('k',)), ('b', 'k', ('k',)), ('c', 'k', ())])
>>> Forest(INV, ['a', 'b', 'c']).next_move()
('segments', 'a', 'b', 'b', 'c')

>>> from likeholes.forests import Forest
>>> INV = (('k',), [('a', 'k', ('k',)), ('b', 'k', ('k',)), ('c', 'k', ())])
>>> forest = Forest(INV, ['a', 'b', 'c'])
>>> forest.apply(('segments', 'a', 'b', 'b', 'c'))
>>> forest.current()
['b', 'c', 'a']

>>> from likeholes.forests import Forest
>>> INV = (('k',), [('a', 'k', ('k',)), ('b', 'k', ('k',)), ('c', 'k', ())])
>>> forest = Forest(INV, ['a', 'b', 'c'])
>>> forest.apply(('segments', 'a', 'b', 'b', 'c'))
>>> forest.undo()
>>> [forest.current(), forest.history()]
[['a', 'b', 'c'], []]

>>> from likeholes.forests import Forest
>>> INV = (('k',), [('a', 'k', ('k',)), ('b', 'k', ('k',)), ('c', 'k', ())])
>>> forest = Forest(INV, ['a', 'b', 'c'])
>>> forest.pin(('', 0))
>>> forest.apply(('segments', 'a', 'b', 'b', 'c'))
raises PinnedSlot(slot=('', 0))

>>> from likeholes.forests import Forest
>>> INV = (('k',), [('a', 'k', ('k',)), ('b', 'k', ('k',)), ('c', 'k', ())])
>>> forest = Forest(INV, ['a', 'b', 'c'])
>>> forest.go_to(['b', 'c', 'a'])
[('segments', 'a', 'b', 'b', 'c')]
"""


def run_example(lines):
    """Return the value of the last statement, or the name of the error that it raises, written as in the document."""
    names = {}
    for line in lines[:-1]:
        exec(line, names)
    try:
        return eval(lines[-1], names)
    except LikeholesError as error:
        stored = ", ".join(f"{name}={value!r}" for name, value in vars(error).items())
        return "raises " + type(error).__name__ + (f"({stored})" if stored else "")


class ExamplesTest(unittest.TestCase):

    def test_all_examples(self):
        blocks = EXAMPLES.strip().split("\n\n")
        self.assertEqual(len(blocks), 33)
        for block in blocks:
            *statements, expected = block.split("\n")
            self.assertTrue(all(line.startswith(">>> ") for line in statements))
            answer = run_example([line[4:] for line in statements])
            if not expected.startswith("raises "):
                expected = eval(expected)
            self.assertTrue(is_same(answer, expected), (block, answer))


if __name__ == "__main__":
    unittest.main()
