"""[6] Spaces told of others, and [2], [3], [4] of them."""

import unittest
from itertools import permutations

from blockrooms.errors import NoFace, NoName, NoTurn
from blockrooms.spaces import beside, joined, parted, renamed, space_of
from rooms_for_tests import (ALONE, CHAIN, CLOSED, DOUBLE, FOLDED, LONE, ODD_THINGS, PAIR, SAME, SPACES, TURNS,
                             all_tuples, as_lists, glueings, one_block_spaces)

BAD_FACES = ODD_THINGS + [-1, 4, 10 ** 29, [0], (0,)]
BAD_BLOCKS = ODD_THINGS + [-1, 2, 10 ** 29, [0], (0,)]
BAD_TURNS = ODD_THINGS + [0, "0123", [], [0, 1, 2], [0, 1, 2, 3, 4], [0, 1, 2, 2], [1, 2, 3, 4], [0, 1, 2, "3"],
                          [0, 1, 2, None], [0, 1, 2, [3]], [0, True, 2, 3], [0, 1, 2, 3.0], range(4)]
TWO = (LONE, LONE)


def contrary(turn):
    return tuple(turn.index(c) for c in range(4))


class TestJoined(unittest.TestCase):
    def refused(self, error, space, block, face, other, turn):
        with self.assertRaises(error, msg=repr((space, block, face, other, turn))) as caught:
            joined(space, block, face, other=other, turn=turn)
        self.assertIs(caught.exception.__class__, error)

    def test_by_hand(self):
        self.assertEqual(joined(TWO, 0, 3, other=1, turn=(0, 2, 1, 3)), PAIR)
        self.assertEqual(joined(ALONE, 0, 0, other=0, turn=(1, 0, 2, 3)), FOLDED)
        told = joined(TWO, 0, 0, other=1, turn=[1, 2, 0, 3])
        self.assertEqual(told, (((1, (1, 2, 0, 3)), None, None, None), (None, (0, (2, 0, 1, 3)), None, None)))
        self.assertTrue(all_tuples(told))

    def test_those_behind_the_star_stand_in_any_order(self):
        self.assertEqual(joined(TWO, 0, 3, turn=(0, 2, 1, 3), other=1), PAIR)
        with self.assertRaises(TypeError):
            joined(TWO, 0, 3, 1, SAME)

    def test_from_either_side_the_same(self):
        for turn in TURNS:
            for face in range(4):
                told = joined(TWO, 0, face, other=1, turn=turn)
                self.assertEqual(told, joined(TWO, 1, turn[face], other=0, turn=contrary(turn)))
                self.assertEqual(told[0][face], (1, turn))
                self.assertEqual(told[1][turn[face]], (0, contrary(turn)))
                self.assertEqual(space_of(told), told)

    def test_a_block_with_itself(self):
        for turn in TURNS:
            for face in range(4):
                if turn[face] != face:
                    told = joined(ALONE, 0, face, other=0, turn=turn)
                    self.assertEqual(told, joined(ALONE, 0, turn[face], other=0, turn=contrary(turn)))
                    self.assertEqual(space_of(as_lists(told)), told)

    def test_the_rest_stays(self):
        told = joined(CHAIN, 0, 1, other=1, turn=(1, 0, 3, 2))
        changed = as_lists(CHAIN)
        changed[0][1] = [1, [1, 0, 3, 2]]
        changed[1][0] = [0, [1, 0, 3, 2]]
        self.assertEqual(told, space_of(changed))

    def test_no_block_or_face(self):
        for block in BAD_BLOCKS:
            self.refused(NoFace, TWO, block, 0, 1, SAME)
            self.refused(NoFace, TWO, 0, 0, block, SAME)
        for face in BAD_FACES:
            self.refused(NoFace, TWO, 0, face, 1, SAME)

    def test_a_face_that_is_not_free(self):
        self.refused(NoFace, PAIR, 0, 3, 1, SAME)
        self.refused(NoFace, PAIR, 0, 3, 1, (0, 2, 1, 3))
        self.refused(NoFace, CLOSED, 0, 0, 0, (1, 2, 3, 0))

    def test_no_turn(self):
        for turn in BAD_TURNS:
            self.refused(NoTurn, TWO, 0, 0, 1, turn)

    def test_the_other_face_not_free_or_the_same(self):
        self.refused(NoFace, PAIR, 0, 0, 1, (3, 0, 1, 2))
        self.refused(NoFace, FOLDED, 0, 2, 0, (1, 2, 0, 3))
        self.refused(NoFace, ALONE, 0, 0, 0, SAME)
        self.refused(NoFace, TWO, 1, 2, 1, (1, 0, 2, 3))

    def test_no_face_goes_ahead_of_no_turn(self):
        for turn in BAD_TURNS:
            self.refused(NoFace, TWO, 2, 0, 1, turn)
            self.refused(NoFace, TWO, 0, 4, 1, turn)
            self.refused(NoFace, TWO, 0, 0, 2, turn)
            self.refused(NoFace, TWO, 0, 0, True, turn)
            self.refused(NoFace, PAIR, 0, 3, 1, turn)

    def test_no_turn_goes_ahead_of_the_other_face(self):
        # Whatever corner these would lead to, no face of block 1 is free, and block 0's own is the same.
        for turn in ([3, 3, 3, 3], [0, 1, 2, True], "0123", None):
            self.refused(NoTurn, ALONE, 0, 0, 0, turn)
            self.refused(NoTurn, beside(ALONE, CLOSED), 0, 0, 1, turn)

    def test_what_is_handed_in_is_neither_changed_nor_kept(self):
        space, turn = as_lists(TWO), [0, 2, 1, 3]
        told = joined(space, 0, 3, other=1, turn=turn)
        self.assertEqual((space, turn), (as_lists(TWO), [0, 2, 1, 3]))
        turn[0] = 9
        space[0][0] = "?"
        self.assertEqual(told, PAIR)

    def test_joinings_that_were_there_are_not_kept_either(self):
        space = as_lists(CHAIN)
        told = joined(space, 0, 1, other=1, turn=(1, 0, 3, 2))
        self.assertTrue(all_tuples(told))
        space[0][0][1][0] = 9
        space[2][0] = None
        self.assertEqual(told, joined(CHAIN, 0, 1, other=1, turn=(1, 0, 3, 2)))

    def test_what_is_refused_changes_nothing(self):
        space, turn = as_lists(CHAIN), [3, 0, 1, 2]
        for block, face, other in ((0, 0, 1), (0, 1, 9), (0, 2, 1), (5, 0, 0)):
            with self.assertRaises(NoFace):
                joined(space, block, face, other=other, turn=turn)
        self.assertEqual((space, turn), (as_lists(CHAIN), [3, 0, 1, 2]))


class TestParted(unittest.TestCase):
    def refused(self, space, block, face):
        with self.assertRaises(NoFace, msg=repr((space, block, face))):
            parted(space, block, face)

    def test_both_sides_are_free(self):
        self.assertEqual(parted(PAIR, 0, 3), TWO)
        self.assertEqual(parted(PAIR, 1, 3), TWO)
        self.assertEqual(parted(FOLDED, 0, 0), ALONE)
        self.assertEqual(parted(FOLDED, 0, 1), ALONE)

    def test_from_either_side_the_same_and_the_rest_stays(self):
        for space in SPACES + one_block_spaces():
            for block, faces in enumerate(space):
                for face in range(4):
                    if faces[face] is not None:
                        other, turn = faces[face]
                        told = parted(as_lists(space), block, face)
                        self.assertEqual(told, parted(space, other, turn[face]))
                        self.assertTrue(all_tuples(told))
                        changed = as_lists(space)
                        changed[block][face] = changed[other][turn[face]] = None
                        self.assertEqual(as_lists(told), changed)

    def test_no_block_or_face(self):
        for block in BAD_BLOCKS:
            self.refused(DOUBLE, block, 0)
        for face in BAD_FACES:
            self.refused(DOUBLE, 0, face)

    def test_not_joined(self):
        for space in SPACES:
            for block, faces in enumerate(space):
                for face in range(4):
                    if faces[face] is None:
                        self.refused(space, block, face)

    def test_what_is_handed_in_is_not_changed(self):
        space = as_lists(CHAIN)
        told = parted(space, 1, 1)
        self.refused(space, 1, 0)
        self.assertEqual(space, as_lists(CHAIN))
        space[0][0][1][0] = "?"
        self.assertEqual(told, parted(CHAIN, 1, 1))

    def test_joined_and_parted_parted_and_joined(self):
        for space in SPACES + one_block_spaces():
            for block, faces in enumerate(space):
                for face in range(4):
                    if faces[face] is None:
                        self.joined_and_parted(space, block, face)
                    else:
                        other, turn = faces[face]
                        apart = parted(space, block, face)
                        self.assertEqual(joined(apart, block, face, other=other, turn=turn), space)

    def joined_and_parted(self, space, block, face):
        for other, faces in enumerate(space):
            for turn in TURNS:
                if faces[turn[face]] is None and (other, turn[face]) != (block, face):
                    told = joined(space, block, face, other=other, turn=turn)
                    self.assertNotEqual(told, space)
                    self.assertEqual(parted(told, block, face), space)
                    self.assertEqual(parted(told, other, turn[face]), space)


class TestBeside(unittest.TestCase):
    def test_numbers_of_the_second_ones_blocks(self):
        self.assertEqual(beside(ALONE, ALONE), TWO)
        self.assertEqual(beside(ALONE, PAIR), (LONE, (None, None, None, (2, (0, 2, 1, 3))),
                                               (None, None, None, (1, (0, 2, 1, 3)))))
        self.assertEqual(beside(PAIR, ALONE), PAIR + (LONE,))

    def test_joinings_by_joinings(self):
        for one in SPACES:
            for other in SPACES:
                told = beside(as_lists(one), as_lists(other))
                self.assertTrue(all_tuples(told))
                self.assertEqual(space_of(told), told)
                self.assertEqual(told[:len(one)], one)
                many = len(one)
                behind = [[None if f is None else (f[0] + many, f[1]) for f in block] for block in other]
                self.assertEqual(as_lists(told[many:]), as_lists(behind))

    def test_more_than_twelve(self):
        space = ALONE
        for _ in range(4):
            space = beside(space, space)
        self.assertEqual(space, (LONE,) * 16)
        self.assertEqual(len(beside(space, DOUBLE)), 18)
        self.assertEqual(parted(beside(space, DOUBLE), 16, 0)[17][0], None)

    def test_with_itself_and_not_changed(self):
        space = as_lists(CHAIN)
        told = beside(space, space)
        self.assertEqual(space, as_lists(CHAIN))
        space[2][0][0] = 0
        space[1][3] = None
        self.assertEqual(told, beside(CHAIN, CHAIN))


class TestRenamed(unittest.TestCase):
    def refused(self, space, order, turns):
        with self.assertRaises(NoName, msg=repr((space, order, turns))):
            renamed(space, order, turns)

    def test_the_order_by_hand(self):
        # Block 1 becomes block 0, block 2 block 1, block 0 block 2.
        self.assertEqual(renamed(CHAIN, [1, 2, 0], [SAME] * 3),
                         ((None, (1, (1, 2, 3, 0)), None, (2, (2, 1, 3, 0))),
                          ((1, (3, 0, 1, 2)), None, (0, (3, 0, 1, 2)), (1, (1, 2, 3, 0))),
                          ((0, (3, 1, 0, 2)), None, None, None)))

    def test_the_turns_by_hand(self):
        # Face 0 becomes face 1, face 1 face 2.
        self.assertEqual(renamed(FOLDED, [0], [(1, 2, 3, 0)]),
                         ((None, (0, (0, 2, 1, 3)), (0, (0, 2, 1, 3)), None),))

    def test_both_together_by_hand(self):
        self.assertEqual(renamed(PAIR, [1, 0], [(1, 0, 2, 3), (0, 1, 3, 2)]),
                         ((None, None, None, (1, (3, 0, 1, 2))), (None, None, (0, (1, 2, 3, 0)), None)))

    def test_what_met_meets_by_new_names(self):
        for space in SPACES:
            for order in permutations(range(len(space))):
                for shift in range(24):
                    turns = [TURNS[(shift + 7 * k) % 24] for k in range(len(space))]
                    self.meets_alike(space, list(order), turns)

    def meets_alike(self, space, order, turns):
        told = renamed(as_lists(space), order, as_lists(turns))
        self.assertTrue(all_tuples(told))

        def named(place):
            block, face, corner = place
            new = order.index(block)
            return (new, turns[new][face], turns[new][corner])

        self.assertEqual(glueings(told), {(named(a), named(b)) for a, b in glueings(space)})
        self.assertEqual(space_of(told), told)

    def test_renamed_and_renamed_back(self):
        for space in SPACES:
            many = len(space)
            for order in permutations(range(many)):
                for shift in range(24):
                    turns = [TURNS[(shift + 5 * k) % 24] for k in range(many)]
                    back = [order.index(k) for k in range(many)]
                    turned_back = [contrary(turns[back[k]]) for k in range(many)]
                    told = renamed(space, order, turns)
                    self.assertEqual(renamed(told, back, turned_back), space)

    def test_one_block_by_every_turn(self):
        for space in one_block_spaces():
            for turn in TURNS:
                told = renamed(space, [0], [turn])
                self.assertEqual(renamed(told, [0], [contrary(turn)]), space)
            self.assertEqual(renamed(space, (0,), (list(SAME),)), space)

    def test_an_order_that_is_none(self):
        wrong = ODD_THINGS + [0, "01", [], [0], [1], [0, 0], [0, 2], [1, 2], [-1, 0], [0, 1, 2], [0, "1"], [None, 0],
                              [0, True], [False, 1], [1.0, 0], [[0], [1]], [0, 10 ** 29], {0: 0, 1: 1}, {0, 1},
                              range(2)]
        for order in wrong:
            self.refused(PAIR, order, [SAME, SAME])

    def test_turns_that_are_none(self):
        for turns in ODD_THINGS + [0, [], [SAME], [SAME] * 3, SAME, "0123", {0: SAME, 1: SAME}, iter([SAME, SAME])]:
            self.refused(PAIR, [1, 0], turns)
        for turn in BAD_TURNS:
            self.refused(PAIR, [1, 0], [turn, SAME])
            self.refused(PAIR, [1, 0], [SAME, turn])

    def test_what_is_handed_in_is_neither_changed_nor_kept(self):
        space, order, turns = as_lists(CHAIN), [2, 0, 1], [[1, 0, 2, 3], [3, 2, 1, 0], [0, 2, 3, 1]]
        told = renamed(space, order, turns)
        self.assertEqual(space, as_lists(CHAIN))
        self.assertEqual((order, turns), ([2, 0, 1], [[1, 0, 2, 3], [3, 2, 1, 0], [0, 2, 3, 1]]))
        again = renamed(CHAIN, (2, 0, 1), ((1, 0, 2, 3), (3, 2, 1, 0), (0, 2, 3, 1)))
        order.clear()
        turns[0][0] = 7
        space[0][0] = None
        self.assertEqual(told, again)

    def test_what_is_refused_changes_nothing(self):
        space, order, turns = as_lists(CHAIN), [2, 1, 1], [[0, 1, 2, 3]] * 3
        self.refused(space, order, turns)
        self.assertEqual((space, order, turns), (as_lists(CHAIN), [2, 1, 1], [[0, 1, 2, 3]] * 3))


if __name__ == "__main__":
    unittest.main()
