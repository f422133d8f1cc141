"""[5] What a space is, and [2], [3] of it."""

import unittest

from blockrooms.errors import NoSpace
from blockrooms.spaces import space_of
from rooms_for_tests import (ALONE, CHAIN, DOUBLE, FOLDED, LONE, ODD_THINGS, PAIR, SAME, SPACES, all_tuples,
                             as_lists, one_block_spaces)


class TestSpaceOf(unittest.TestCase):
    def refused(self, blocks):
        with self.assertRaises(NoSpace, msg=repr(blocks)):
            space_of(blocks)

    def test_lists_become_tuples_through_and_through(self):
        for space in SPACES:
            told = space_of(as_lists(space))
            self.assertEqual(told, space)
            self.assertTrue(all_tuples(told))

    def test_tuples_and_mixed_lists_may_be_handed_in(self):
        for space in SPACES:
            self.assertEqual(space_of(space), space)
            mixed = tuple([face if face is None else [face[0], face[1]] for face in block] for block in space)
            told = space_of(mixed)
            self.assertEqual(told, space)
            self.assertTrue(all_tuples(told))

    def test_every_space_of_one_block(self):
        spaces = one_block_spaces()
        self.assertEqual(len(set(spaces)), 145)
        for space in spaces:
            self.assertEqual(space_of(as_lists(space)), space)

    def test_a_joining_by_hand(self):
        told = space_of([[None, None, None, [1, [0, 2, 1, 3]]], [None, None, None, [0, [0, 2, 1, 3]]]])
        self.assertEqual(told, PAIR)
        # A turn of three: the other side has the contrary one, not the same.
        told = space_of([[[1, [1, 2, 0, 3]], None, None, None], [None, [0, [2, 0, 1, 3]], None, None]])
        self.assertEqual(told, (((1, (1, 2, 0, 3)), None, None, None), (None, (0, (2, 0, 1, 3)), None, None)))

    def test_twelve_blocks(self):
        self.assertEqual(space_of([list(LONE)] * 12), (LONE,) * 12)

    def test_what_was_handed_in_is_neither_changed_nor_kept(self):
        blocks = as_lists(CHAIN)
        told = space_of(blocks)
        self.assertEqual(blocks, as_lists(CHAIN))
        blocks[0][0][1][0] = 0
        blocks[1][3] = None
        blocks.append("more")
        self.assertEqual(told, CHAIN)
        self.refused(blocks)

    def test_asked_again_it_is_told_as_it_is_then(self):
        blocks = as_lists(FOLDED)
        self.assertEqual(space_of(blocks), FOLDED)
        self.assertEqual(space_of(blocks), FOLDED)
        blocks[0][0] = blocks[0][1] = None
        self.assertEqual(space_of(blocks), ALONE)

    def test_what_is_refused_is_not_changed(self):
        blocks = as_lists(CHAIN)
        blocks[2][3] = None
        kept = as_lists(blocks)
        self.refused(blocks)
        self.assertEqual(blocks, kept)

    def test_lists_that_are_none(self):
        for thing in ODD_THINGS + [0, 7, "text", [], (), {1, 2}, {0: LONE}, iter([LONE])]:
            self.refused(thing)

    def test_blocks_that_are_none(self):
        for thing in ODD_THINGS + [0, "text", "-" * 4, [], LONE[:3], LONE + (None,), [LONE], {0: None}]:
            self.refused([thing])
            self.refused([LONE, thing])

    def test_joinings_that_are_none(self):
        things = [thing for thing in ODD_THINGS if thing is not None]
        for thing in things + [0, 1, "0:0123", [], [0], [0, SAME, SAME], SAME, [SAME, 0], {0: SAME}]:
            for face in range(4):
                block = [None] * 4
                block[face] = thing
                self.refused([block])

    def test_numbers_that_are_none(self):
        # False and True and 1.0 are equal to numbers that would do.
        for number in ODD_THINGS + [-1, -2, 2, 10 ** 29, [1], (0,)]:
            self.refused([[(number, SAME), None, None, None], [(0, SAME), None, None, None]])
        self.refused([[(True, SAME), None, None, None], [(False, SAME), None, None, None]])
        self.refused([[(1, SAME), None, None, None], [(False, SAME), None, None, None]])

    def test_turns_that_are_none(self):
        wrong = ODD_THINGS + [0, "0123", [], [0, 1, 2], [0, 1, 2, 3, 4], [0, 1, 2, 2], [1, 2, 3, 4], [0, 1, 2, -1],
                              [0, 1, 2, "3"], [0, 1, 2, None], [0, 1, 2, [3]], [0, True, 2, 3], [False, 1, 2, 3],
                              [0, 1, 2, 3.0], {0: 0, 1: 1, 2: 2, 3: 3}, {0, 1, 2, 3}, range(4)]
        for turn in wrong:
            self.refused([[(1, turn), None, None, None], [(0, SAME), None, None, None]])
            self.refused([[(1, turn), None, None, None], [(0, turn), None, None, None]])

    def test_joinings_that_do_not_go_both_ways(self):
        self.refused([[(1, SAME), None, None, None], list(LONE)])
        self.refused([list(LONE), [(0, SAME), None, None, None]])
        # The other face leads to another face, another block, or elsewhere by its turn.
        self.refused([[(1, SAME), None, None, None], [None, (0, SAME), None, None]])
        self.refused([[(1, SAME), None, None, None], [(2, SAME), None, None, None], [(1, SAME), None, None, None]])
        self.refused([[(1, SAME), None, None, None], [(0, (0, 2, 1, 3)), None, None, None]])
        self.refused([[(1, SAME), None, None, None], [(1, SAME), None, None, None]])

    def test_the_contrary_turn_is_due_not_the_same(self):
        self.refused([[(1, (0, 2, 3, 1)), None, None, None], [(0, (0, 2, 3, 1)), None, None, None]])
        self.assertTrue(all_tuples(space_of([[(1, (0, 2, 3, 1)), None, None, None],
                                             [(0, (0, 3, 1, 2)), None, None, None]])))

    def test_a_space_with_one_side_missing(self):
        for space in (FOLDED, PAIR, DOUBLE, CHAIN):
            for block, faces in enumerate(space):
                for face in range(4):
                    if faces[face] is not None:
                        blocks = as_lists(space)
                        blocks[block][face] = None
                        self.refused(blocks)

    def test_a_face_joined_to_itself(self):
        # Each of these turns is its own contrary, so that all goes both ways.
        for face, turn in ((0, SAME), (0, (0, 2, 1, 3)), (3, (1, 0, 2, 3)), (2, (0, 3, 2, 1))):
            block = [None] * 4
            block[face] = (0, turn)
            self.refused([block])


if __name__ == "__main__":
    unittest.main()
