"""[18] to [20] The four moves, [21] which can be done, and how, and [2], [3] of them."""

import unittest
from itertools import product

from blockrooms.alike import least_name
from blockrooms.around import corner_words
from blockrooms.cells import corners_of, edges_of
from blockrooms.errors import NoMove
from blockrooms.moves import GROWTH, moved, moves_of
from blockrooms.spaces import beside, joined, parted, space_of
from rooms_for_tests import (ALONE, ASLANT, BALL, BENT, BENT_WITHIN, BOTTLE, CHAIN, CLOSED, DOUBLE, FOLDED, LONE,
                             ODD_THINGS, PAIR, SAME, TORUS, TURNS, all_tuples, as_lists, glueings)
from moves_for_tests import (FOUR_AROUND, ROWS, THREE_AROUND, all_names, can_be_done, closed_ball_pair, flags_behind,
                             four_that_meet, spaces_with_moves, walked)

# Three blocks behind a "split" of PAIR's face.
SPLIT_PAIR = ((None, None, (1, (0, 1, 2, 3)), (2, (0, 1, 3, 2))),
              (None, None, (0, (0, 1, 2, 3)), (2, (0, 1, 2, 3))),
              (None, None, (0, (0, 1, 3, 2)), (1, (0, 1, 2, 3))))
FACED = (((1, SAME), None, None, None), ((0, SAME), None, None, None))


class MoveTests(unittest.TestCase):
    def refused(self, space, move):
        with self.assertRaises(NoMove, msg=repr((space, move))) as caught:
            moved(space, move)
        self.assertIs(caught.exception.__class__, NoMove)

    def cannot(self, space, move):
        """It has the form of a move, but can't be done."""
        self.assertNotIn(move, moves_of(space))
        self.refused(space, move)

    def behind(self, space, move):
        told = moved(space, move)[0]
        self.assertTrue(all_tuples(told))
        self.assertEqual(space_of(told), told)
        return told


class TestSplit(MoveTests):
    def test_by_hand(self):
        self.assertEqual(self.behind(PAIR, ("split", 0, 3)), SPLIT_PAIR)
        # From the other side: corners 1 and 2 are the other way round there.
        self.assertEqual(self.behind(PAIR, ("split", 1, 3)), SPLIT_PAIR)
        self.assertEqual(self.behind(FACED, ("split", 0, 0)), SPLIT_PAIR)

    def test_the_blocks_come_behind_the_others_which_keep_their_order(self):
        space = beside(ALONE, beside(PAIR, FOLDED))
        told = self.behind(space, ("split", 1, 3))
        self.assertEqual(told, beside(beside(ALONE, FOLDED), SPLIT_PAIR))

    def test_faces_joined_to_other_blocks_follow(self):
        # Block 2 at face 0 of the first, block 3 at face 1 of the second.
        space = joined(beside(PAIR, (LONE, LONE)), 0, 0, other=2, turn=(1, 2, 3, 0))
        space = joined(space, 1, 1, other=3, turn=(0, 1, 3, 2))
        told = self.behind(space, ("split", 0, 3))
        # The first's face 0 has corners 1, 2, 3: of the block for corner 0 these are 2, 3, 0, as they are of block 2.
        self.assertEqual(told[2][1], (0, (0, 1, 2, 3)))
        self.assertEqual(told[0], (None, (2, (0, 1, 2, 3)), None, None))
        # The second's face 1 lacks the first's corner 2. Its corners 0, 2, 3 are 2, 3, 1 of the block for that one.
        self.assertEqual(told[4][0], (1, (1, 2, 0, 3)))
        self.assertEqual(told[1], (None, (4, (2, 0, 1, 3)), None, None))

    def test_blocks_joined_by_several_faces(self):
        told = self.behind(DOUBLE, ("split", 0, 3))
        # Across the first's face 0 is the second's face 0: the outer faces of the block for corner 0 are joined.
        self.assertEqual(told[0][:2], ((0, (1, 0, 2, 3)), (0, (1, 0, 2, 3))))
        self.assertEqual(told[1][:2], ((1, (1, 0, 2, 3)), (1, (1, 0, 2, 3))))
        self.assertEqual(len(told), 3)

    def test_a_block_joined_to_itself_besides(self):
        space = joined(PAIR, 0, 0, other=0, turn=(1, 0, 2, 3))
        # Face 0 of it is of the block for corner 0, face 1 of that for 1, without the other block's corner.
        told = self.behind(space, ("split", 0, 3))
        self.assertEqual([told[0][1][0], told[1][1][0]], [1, 0])
        # From the other side its corner 1 is 2, and the first corner is the other block's.
        told = self.behind(space, ("split", 1, 3))
        self.assertEqual([told[0][0][0], told[2][0][0]], [2, 0])

    def test_a_free_face(self):
        for face in range(3):
            self.cannot(PAIR, ("split", 0, face))
        for face in range(4):
            self.cannot(ALONE, ("split", 0, face))

    def test_a_face_that_leads_to_the_same_block(self):
        for space in (FOLDED, CLOSED, BOTTLE, ASLANT):
            for face in range(4):
                self.cannot(space, ("split", 0, face))
        self.cannot(CHAIN, ("split", 2, 0))
        self.assertIn(("split", 2, 2), moves_of(CHAIN))


class TestFuse(MoveTests):
    def test_by_hand(self):
        self.assertEqual(self.behind(SPLIT_PAIR, ("fuse", 0, 0, 1)), FACED)
        self.assertEqual(self.behind(SPLIT_PAIR, ("fuse", 1, 0, 1)), FACED)
        self.assertEqual(self.behind(THREE_AROUND, ("fuse", 2, 0, 1)), FACED)

    def test_the_blocks_come_behind_the_others_which_keep_their_order(self):
        space = beside(PAIR, beside(THREE_AROUND, ASLANT))
        self.assertEqual(self.behind(space, ("fuse", 3, 0, 1)), beside(beside(PAIR, ASLANT), FACED))

    def test_the_corners_in_their_order(self):
        space = THREE_AROUND
        for block in range(3):
            space = joined(beside(space, ALONE), block, 0, other=3 + block, turn=SAME)
        # From block 0: the first one has corners 0, 2, 3 of it, and the third one around; so block 3, at the face 0 of
        # block 0, is at face 3 of that without corner 0, by corners 1, 2, 3 of block 0, now 0, 1, 2.
        told = self.behind(space, ("fuse", 0, 0, 1))
        self.assertEqual(told[3][3], None)
        self.assertEqual(told[4][3], (0, (1, 2, 3, 0)))
        self.assertEqual(told[3][0], (4, SAME))
        # The third corner is of the two other blocks: block 2 lies at face 3, where block 1 is across face 2.
        self.assertEqual([told[4][face][0] for face in (1, 2)], [1, 2])
        self.assertEqual({told[1][0][0], told[2][0][0]}, {4})

    def test_an_edge_of_fewer_or_of_more_than_three(self):
        two = joined(joined((LONE, LONE), 0, 2, other=1, turn=(0, 1, 3, 2)), 0, 3, other=1, turn=(0, 1, 3, 2))
        for space in (FOUR_AROUND, two):
            for block in range(len(space)):
                self.cannot(space, ("fuse", block, 0, 1))
        # One around: faces 2 and 3 are joined.
        self.cannot((((None, None, (0, (0, 1, 3, 2)), (0, (0, 1, 3, 2)))),), ("fuse", 0, 0, 1))

    def test_an_edge_of_three_on_a_border_face(self):
        space = parted(FOUR_AROUND, 0, 2)
        self.cannot(space, ("fuse", 0, 0, 1))
        three = parted(THREE_AROUND, 0, 3)
        for block in range(3):
            self.cannot(three, ("fuse", block, 0, 1))

    def test_a_bent_edge(self):
        # The ring of three closed by a turn that has both ends changed.
        space = joined(parted(THREE_AROUND, 0, 2), 0, 2, other=1, turn=(1, 0, 3, 2))
        for block in range(3):
            self.cannot(space, ("fuse", block, 0, 1))
        self.cannot(BENT_WITHIN, ("fuse", 0, 0, 1))

    def test_an_edge_of_three_of_blocks_that_are_not_unlike(self):
        found = 0
        for space in spaces_with_moves():
            for move in all_names(len(space)):
                if move[0] == "fuse" and move[2] < move[3] and self.three_of_two(space, *move[1:]):
                    self.cannot(space, move)
                    found += 1
        self.assertGreater(found, 5)

    def three_of_two(self, space, block, start, end):
        [row] = [row for row in edges_of(space) if (block, start, end) in row or (block, end, start) in row]
        return len(row) == 3 and len({b for b, _, _ in row}) == 2

    def test_i_is_not_below_j(self):
        for i, j in product(range(4), repeat=2):
            if (i, j) != (0, 1):
                self.cannot(THREE_AROUND, ("fuse", 0, i, j))


class TestFill(MoveTests):
    def test_by_hand(self):
        self.assertEqual(self.behind(ALONE, ("fill", 0)), BALL)
        self.assertEqual(self.behind(beside(PAIR, ALONE), ("fill", 2)), beside(PAIR, BALL))
        self.assertEqual(self.behind(beside(ALONE, PAIR), ("fill", 0)), beside(PAIR, BALL))

    def test_faces_follow(self):
        told = self.behind(PAIR, ("fill", 0))
        # Face 3 is of the block for corner 3, behind block 1, now 0.
        self.assertEqual(told[4][3], (0, (0, 2, 1, 3)))
        self.assertEqual(told[0][3], (4, (0, 2, 1, 3)))
        for turn in TURNS:
            if turn[0] != 0:
                told = self.behind(joined(ALONE, 0, 0, other=0, turn=turn), ("fill", 0))
                self.assertEqual(told[0][0], (turn[0], turn))

    def test_a_block_joined_to_itself_all_around(self):
        for space in (CLOSED, BOTTLE, BENT_WITHIN):
            told = self.behind(space, ("fill", 0))
            self.assertEqual([told[face][face] for face in range(4)],
                             [(turn[face], turn) for face, (_, turn) in enumerate(space[0])])


class TestDrain(MoveTests):
    def test_by_hand(self):
        for block in range(4):
            self.assertEqual(self.behind(BALL, ("drain", block, block)), ALONE)
        self.assertEqual(self.behind(beside(PAIR, beside(BALL, ASLANT)), ("drain", 3, 1)),
                         beside(beside(PAIR, ASLANT), ALONE))

    def test_the_corners_in_their_order(self):
        # Corner k is the one that the k-th block lacks: at its face k lies what lay at the k-th's outer face.
        space = beside(BALL, (LONE,) * 4)
        for block in range(4):
            space = joined(space, block, block, other=4 + block, turn=SAME)
        for block in range(4):
            told = self.behind(space, ("drain", block, block))
            self.assertEqual(told[4], tuple((face, SAME) for face in range(4)))
        told = self.behind(closed_ball_pair(), ("drain", 2, 2))
        self.assertEqual(told[4], tuple((face, SAME) for face in range(4)))

    def test_outer_faces_joined_to_each_other(self):
        for space in (FOLDED, CLOSED, TORUS, BOTTLE):
            full = self.behind(space, ("fill", 0))
            first = len(space) - 1
            for corner in range(4):
                told = self.behind(full, ("drain", first + corner, corner))
                self.assertEqual(least_name(told), least_name(space))
        self.assertEqual(self.behind(self.behind(CLOSED, ("fill", 0)), ("drain", 0, 0)), CLOSED)

    def test_a_corner_that_is_not_inner(self):
        for corner in range(1, 4):
            self.cannot(BALL, ("drain", 0, corner))
        for space in (ALONE, TORUS, CLOSED):
            for block, corner in product(range(len(space)), range(4)):
                self.cannot(space, ("drain", block, corner))

    def test_a_corner_of_four_that_meet_but_are_not_around_a_ball(self):
        words = {"inner": 0, "odd": 0}
        for space in four_that_meet():
            place = [at for at, row in enumerate(corners_of(space)) if (0, 0) in row][0]
            self.assertEqual(len(corners_of(space)[place]), 4)
            word = corner_words(space)[place]
            words[word] += 1
            for block in range(4):
                if word == "odd":
                    self.cannot(space, ("drain", block, 0))
                else:
                    self.assertIn(("drain", block, 0), moves_of(space))
        self.assertGreater(min(words.values()), 0)

    def test_an_inner_corner_of_fewer_or_of_more_than_four(self):
        for block, corner in product(range(2), range(4)):
            self.cannot(DOUBLE, ("drain", block, corner))
        more = self.behind(BALL, ("split", 0, 1))
        self.assertEqual([move for move in moves_of(more) if move[0] == "drain"], [])

    def test_an_inner_corner_of_four_of_two_joined_by_more_than_one_face_there(self):
        # A ring of four triangles of two each: 0 and 1 meet twice around the corner, and so do 2 and 3.
        found = 0
        for space in spaces_with_moves():
            for move in all_names(len(space)):
                if move[0] == "drain" and self.twice_there(space, *move[1:]):
                    self.cannot(space, move)
                    found += 1
        self.assertGreater(found, 3)

    def twice_there(self, space, block, corner):
        [at] = [at for at, row in enumerate(corners_of(space)) if (block, corner) in row]
        row = corners_of(space)[at]
        others = [space[block][face][0] for face in range(4) if face != corner and space[block][face] is not None]
        return corner_words(space)[at] == "inner" and len(row) == len({b for b, _ in row}) == 4 and \
            len(set(others)) < 3

    def test_an_inner_corner_of_four_of_blocks_that_are_not_unlike(self):
        found = 0
        for space in spaces_with_moves():
            for word, row in zip(corner_words(space), corners_of(space)):
                if word == "inner" and len(row) == 4 and len({b for b, _ in row}) < 4:
                    for block, corner in row:
                        self.cannot(space, ("drain", block, corner))
                        found += 1
        self.assertGreater(found, 3)


class TestMoves(MoveTests):
    def test_by_hand(self):
        self.assertEqual(moves_of(ALONE), [("fill", 0)])
        self.assertEqual(moves_of(PAIR), [("fill", 0), ("fill", 1), ("split", 0, 3), ("split", 1, 3)])
        self.assertEqual(moves_of(THREE_AROUND),
                         [("fill", 0), ("fill", 1), ("fill", 2), ("fuse", 0, 0, 1), ("fuse", 1, 0, 1),
                          ("fuse", 2, 0, 1)] + [("split", b, f) for b in range(3) for f in (2, 3)])
        told = moves_of(BALL)
        self.assertEqual(told[:4], [("drain", b, b) for b in range(4)])
        self.assertEqual(told[4:8], [("fill", b) for b in range(4)])
        self.assertEqual(told[8:11], [("fuse", 0, 0, 1), ("fuse", 0, 0, 2), ("fuse", 0, 0, 3)])
        self.assertEqual(len(told), 4 + 4 + 12 + 12)
        self.assertEqual(moves_of(FOUR_AROUND), [("fill", b) for b in range(4)] + [("split", b, f) for b in range(4)
                                                                                  for f in (2, 3)])

    def test_just_those_that_can_be_done_by_the_words(self):
        words = {word: 0 for word in ROWS}
        for space in spaces_with_moves():
            told = moves_of(space)
            self.assertIs(type(told), list)
            self.assertEqual(told, sorted(set(told)))
            self.assertEqual(told, sorted(move for move in all_names(len(space)) if can_be_done(space, move)))
            for move in told:
                self.assertEqual([type(part) for part in (move, *move)], [tuple, str] + [int] * (len(move) - 1))
                words[move[0]] += 1
        self.assertGreater(min(words.values()), 30)

    def test_each_can_be_done_and_no_other(self):
        self.assertEqual(GROWTH, ROWS)
        for space in spaces_with_moves()[::3]:
            told = moves_of(space)
            for move in all_names(len(space)):
                if move in told:
                    self.assertEqual(len(self.behind(space, move)), len(space) + ROWS[move[0]])
                else:
                    self.refused(space, move)

    def test_the_space_behind_by_what_meets(self):
        for space in spaces_with_moves():
            for move in moves_of(space):
                told = self.behind(space, move)
                self.assertEqual({(one, other) for one, other in glueings(told) if one[1] != one[2]},
                                 flags_behind(space, move), (space, move))

    def test_the_move_back(self):
        for space in spaces_with_moves():
            name = least_name(space)
            for move in moves_of(space):
                told = moved(space, move)
                self.assertEqual((type(told), len(told)), (tuple, 2))
                there, back = told
                self.assertIs(type(back), tuple)
                self.assertIn(back, moves_of(there))
                self.assertEqual(least_name(moved(there, back)[0]), name)

    def test_spaces_of_more_than_twelve_blocks(self):
        space = walked(closed_ball_pair(), 5, 12, 17)
        self.assertGreater(len(space), 12)
        for move in moves_of(space)[::7]:
            there, back = moved(space, move)
            self.assertEqual(least_name(moved(there, back)[0]), least_name(space))

    def test_no_move(self):
        things = ODD_THINGS + [
            (), [], ("fill",), ("fill", 4), ("fill", -1), ("fill", True), ("fill", "0"), ("fill", 0.0), ("fill", None),
            ("fill", 0, 0), ("fill", 10 ** 29), ("fill", [0]), (0, "fill"), "fill", "fill 0", ("Fill", 0), (b"fill", 0),
            ("drain", 0), ("drain", 0, 4), ("drain", 0, -4), ("drain", 0, False), ("drain", False, 0),
            ("drain", 0, 0, 0), ("split", 0), ("split", 0, 4), ("split", 0, "1"), ("split", 0, 1, 0), ("split", 1.0, 0),
            ("split", 0, True),
            ("fuse", 0, 0), ("fuse", 0, 1, 0), ("fuse", 0, 1, 1), ("fuse", 0, 0, 4), ("fuse", 0, -1, 1),
            ("fuse", 0, False, 1), ("fuse", 0, 0, True), ("fuse", 4, 0, 1), ("fuse", 0, 0, 1, 0), ("undo",),
            ("join", 0), ("", 0), ([], 0), (["fill"], 0), ({}, 0), (None, 0), (0, 0), {"fill": 0}, {"fill", 0},
            [["fill", 0]],
            [("fill", 0)], ("fill", (0,)), ("fuse", 0, [0, 1]), 10 ** 29, -1, 1, 2]
        for thing in things:
            self.refused(BALL, thing)
        for move in moves_of(BALL):
            self.assertEqual(moved(BALL, list(move)), moved(BALL, move))
            self.refused(BALL, move + (0,))
            self.refused(BALL, move[:-1])
            self.refused(BALL, tuple(map(str, move)))


class TestHandedInAndTold(MoveTests):
    def test_what_is_handed_in_is_not_changed(self):
        for space in (PAIR, BALL, THREE_AROUND, CHAIN, BENT):
            blocks = as_lists(space)
            self.assertEqual(moves_of(blocks), moves_of(space))
            for move in moves_of(space):
                handed = list(move)
                self.assertEqual(moved(blocks, handed), moved(space, move))
                self.assertEqual((blocks, handed), (as_lists(space), list(move)))
            self.refused(blocks, ["split", 0, 9])
            self.assertEqual(blocks, as_lists(space))

    def test_told_lists_are_the_askers_own(self):
        told = moves_of(BALL)
        again = list(told)
        told[0] = ("fill", 9)
        told.clear()
        self.assertEqual(moves_of(BALL), again)

    def test_the_same_lists_with_a_face_parted(self):
        blocks = as_lists(THREE_AROUND)
        self.assertIn(("fuse", 0, 0, 1), moves_of(blocks))
        moved(blocks, ("fuse", 0, 0, 1))
        blocks[0][2] = blocks[1][3] = None
        self.assertEqual(moves_of(blocks), moves_of(parted(THREE_AROUND, 0, 2)))
        self.refused(blocks, ("fuse", 0, 0, 1))
        self.refused(blocks, ("split", 0, 2))
        self.assertEqual(moved(blocks, ("split", 0, 3)), moved(parted(THREE_AROUND, 0, 2), ("split", 0, 3)))


if __name__ == "__main__":
    unittest.main()
