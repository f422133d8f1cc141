"""[9] The border, the parts and the turning, and [2] of them."""

import unittest
from itertools import product

from blockrooms.cells import border, parts_of, turning
from blockrooms.spaces import beside, joined, parted
from rooms_for_tests import (ALONE, ASLANT, BALL, BOTTLE, CHAIN, CLOSED, DOUBLE, FOLDED, LONE, PAIR, SAME, SPACES,
                             TORUS, TURNS, TWISTED, as_lists, many_spaces, merged, turn_is_odd)

TWO = (LONE, LONE)


def signs_keep(space, signs):
    """Whether each joining's turn is odd just where both blocks have the same sign."""
    return all(turn_is_odd(joining[1]) == (signs[block] == signs[joining[0]])
               for block, faces in enumerate(space) for joining in faces if joining is not None)


class TestBorder(unittest.TestCase):
    def test_by_hand(self):
        self.assertEqual(border(ALONE), [(0, 0), (0, 1), (0, 2), (0, 3)])
        self.assertEqual(border(FOLDED), [(0, 2), (0, 3)])
        self.assertEqual(border(PAIR), [(0, 0), (0, 1), (0, 2), (1, 0), (1, 1), (1, 2)])
        self.assertEqual(border(CHAIN), [(0, 1), (0, 2), (0, 3), (1, 0), (1, 2), (2, 1)])
        self.assertEqual(border(BALL), [(0, 0), (1, 1), (2, 2), (3, 3)])

    def test_empty_where_each_face_is_joined(self):
        for space in (CLOSED, DOUBLE, TORUS, BOTTLE):
            self.assertEqual(border(space), [])
            self.assertIs(type(border(space)), list)

    def test_every_free_face_sorted(self):
        for space in many_spaces():
            told = border(space)
            self.assertEqual(told, sorted(told))
            self.assertTrue(all(type(place) is tuple for place in told))
            free = {(b, f) for b, f in product(range(len(space)), range(4)) if space[b][f] is None}
            self.assertEqual(set(told), free)
            self.assertEqual(len(told), len(free))

    def test_a_face_joined_and_parted(self):
        space = joined(CHAIN, 0, 1, other=2, turn=(0, 1, 2, 3))
        self.assertEqual(border(space), [(0, 2), (0, 3), (1, 0), (1, 2)])
        self.assertEqual(border(parted(space, 2, 1)), border(CHAIN))


class TestParts(unittest.TestCase):
    def test_by_hand(self):
        self.assertEqual(parts_of(ALONE), [[0]])
        self.assertEqual(parts_of(CLOSED), [[0]])
        self.assertEqual(parts_of(PAIR), [[0, 1]])
        self.assertEqual(parts_of(TWO), [[0], [1]])
        self.assertEqual(parts_of(CHAIN), [[0, 1, 2]])
        self.assertEqual(parts_of(beside(FOLDED, beside(PAIR, BALL))), [[0], [1, 2], [3, 4, 5, 6]])

    def test_parts_that_stand_among_each_other(self):
        space = joined(joined((LONE,) * 5, 4, 0, other=0, turn=SAME), 3, 1, other=1, turn=SAME)
        self.assertEqual(parts_of(space), [[0, 4], [1, 3], [2]])
        self.assertEqual(parts_of(joined(space, 1, 2, other=4, turn=SAME)), [[0, 1, 3, 4], [2]])

    def test_by_merging(self):
        for space in many_spaces():
            pairs = [(b, joining[0]) for b, faces in enumerate(space) for joining in faces if joining is not None]
            told = parts_of(space)
            self.assertEqual(told, merged(range(len(space)), pairs))
            self.assertTrue(all(type(part) is list for part in told))


class TestTurning(unittest.TestCase):
    def test_by_hand(self):
        self.assertEqual(turning(ALONE), [1])
        self.assertEqual(turning(PAIR), [1, 1])
        self.assertEqual(turning(DOUBLE), [1, -1])
        self.assertEqual(turning(CHAIN), [1, -1, -1])
        self.assertEqual(turning(BALL), [1, 1, 1, 1])
        self.assertEqual(turning(TORUS), [1, 1])
        self.assertEqual(turning((LONE,) * 3), [1, 1, 1])

    def test_the_first_block_of_each_part_has_one(self):
        space = joined(joined((LONE,) * 5, 4, 0, other=0, turn=SAME), 3, 1, other=1, turn=(0, 1, 3, 2))
        self.assertEqual(turning(space), [1, 1, 1, 1, -1])
        self.assertEqual(turning(joined(space, 1, 2, other=4, turn=SAME)), [1, 1, 1, 1, -1])
        self.assertEqual(turning(joined(space, 1, 2, other=4, turn=(0, 3, 2, 1))), [1, -1, 1, -1, -1])
        self.assertEqual(turning(beside(DOUBLE, beside(DOUBLE, ALONE))), [1, -1, 1, -1, 1])

    def test_a_block_joined_to_itself(self):
        for turn in TURNS:
            for face in range(4):
                if turn[face] != face:
                    space = joined(ALONE, 0, face, other=0, turn=turn)
                    self.assertEqual(turning(space), [1] if turn_is_odd(turn) else None)
        self.assertEqual(turning(FOLDED), [1])
        self.assertEqual(turning(ASLANT), [1])
        self.assertIsNone(turning(TWISTED))

    def test_none_where_there_is_none(self):
        for space in (CLOSED, BOTTLE, TWISTED, beside(ALONE, BOTTLE), beside(BOTTLE, ALONE)):
            self.assertIsNone(turning(space))
        # Two joinings of two blocks, one turn odd, the other one even.
        space = joined(TWO, 0, 0, other=1, turn=(0, 1, 3, 2))
        self.assertEqual(turning(joined(space, 0, 1, other=1, turn=(0, 1, 3, 2))), [1, 1])
        self.assertIsNone(turning(joined(space, 0, 1, other=1, turn=SAME)))

    def test_by_trying_all_signs(self):
        for space in many_spaces():
            firsts = [part[0] for part in parts_of(space)]
            good = [list(signs) for signs in product((1, -1), repeat=len(space))
                    if all(signs[first] == 1 for first in firsts) and signs_keep(space, signs)]
            told = turning(space)
            self.assertIn(told, good or [None])
            self.assertTrue(told is None or type(told) is list)


class TestHandedInAndTold(unittest.TestCase):
    def test_lists_may_be_handed_in_and_are_not_changed(self):
        for space in SPACES + [BALL, TORUS, TWISTED]:
            for function in (border, parts_of, turning):
                blocks = as_lists(space)
                self.assertEqual(function(blocks), function(space))
                self.assertEqual(blocks, as_lists(space))

    def test_told_lists_are_the_askers_own(self):
        for function in (border, parts_of, turning):
            told, again = function(CHAIN), function(CHAIN)
            self.assertEqual(told, again)
            told.append(0)
            told[0] = None
            self.assertEqual(function(CHAIN), again)
        parts_of(CHAIN)[0].clear()
        self.assertEqual(parts_of(CHAIN), [[0, 1, 2]])

    def test_the_same_lists_with_a_face_parted(self):
        blocks = as_lists(DOUBLE)
        self.assertEqual((border(blocks), parts_of(blocks), turning(blocks)), ([], [[0, 1]], [1, -1]))
        for face in range(4):
            blocks[0][face] = blocks[1][face] = None
        self.assertEqual(border(blocks), list(product(range(2), range(4))))
        self.assertEqual((parts_of(blocks), turning(blocks)), ([[0], [1]], [1, 1]))
        blocks = as_lists(TWISTED)
        self.assertIsNone(turning(blocks))
        blocks[0][0] = blocks[0][1] = None
        self.assertEqual((border(blocks), turning(blocks)), (border(ALONE), [1]))


if __name__ == "__main__":
    unittest.main()
