"""[8] Corners, edges, faces, and how many, and [2] of them."""

import unittest
from itertools import permutations, product

from blockrooms.cells import corners_of, counted, edges_of, faces_of
from blockrooms.spaces import beside, parted
from rooms_for_tests import (ALONE, ASLANT, BALL, BENT, BENT_WITHIN, BOTTLE, CHAIN, CLOSED, DOUBLE, FOLDED, PAIR,
                             SPACES, TORUS, as_lists, glueings, many_spaces, merged, merged_corners, merged_edges)

TOLD = [corners_of, edges_of, faces_of]


def rows_of_tuples(told, size):
    """Whether it is a list of lists of tuples of ints, of so many each."""
    if type(told) is not list or not all(type(row) is list and row for row in told):
        return False
    each = [cell for row in told for cell in row]
    return all(type(cell) is tuple and len(cell) == size and all(type(n) is int for n in cell) for cell in each)


class TestCorners(unittest.TestCase):
    def test_by_hand(self):
        self.assertEqual(corners_of(ALONE), [[(0, 0)], [(0, 1)], [(0, 2)], [(0, 3)]])
        self.assertEqual(corners_of(FOLDED), [[(0, 0), (0, 1)], [(0, 2)], [(0, 3)]])
        self.assertEqual(corners_of(CLOSED), [[(0, 0), (0, 1), (0, 2), (0, 3)]])
        self.assertEqual(corners_of(PAIR), [[(0, 0), (1, 0)], [(0, 1), (1, 2)], [(0, 2), (1, 1)], [(0, 3)], [(1, 3)]])
        self.assertEqual(corners_of(DOUBLE), [[(0, c), (1, c)] for c in range(4)])
        self.assertEqual(corners_of(BALL), [[(0, 0), (1, 1), (2, 2), (3, 3)], [(0, 1), (2, 1), (3, 1)],
                                            [(0, 2), (1, 2), (3, 2)], [(0, 3), (1, 3), (2, 3)],
                                            [(1, 0), (2, 0), (3, 0)]])
        self.assertEqual(corners_of(beside(FOLDED, PAIR)),
                         [[(0, 0), (0, 1)], [(0, 2)], [(0, 3)], [(1, 0), (2, 0)], [(1, 1), (2, 2)], [(1, 2), (2, 1)],
                          [(1, 3)], [(2, 3)]])

    def test_by_merging(self):
        for space in many_spaces():
            told = corners_of(space)
            self.assertEqual(told, merged_corners(space))
            self.assertTrue(rows_of_tuples(told, 2))


class TestEdges(unittest.TestCase):
    def test_by_hand(self):
        self.assertEqual(edges_of(ALONE), [[(0, 0, 1)], [(0, 0, 2)], [(0, 0, 3)], [(0, 1, 2)], [(0, 1, 3)],
                                           [(0, 2, 3)]])
        self.assertEqual(edges_of(FOLDED), [[(0, 0, 1)], [(0, 0, 2), (0, 1, 2)], [(0, 0, 3), (0, 1, 3)], [(0, 2, 3)]])
        self.assertEqual(edges_of(PAIR), [[(0, 0, 1), (1, 0, 2)], [(0, 0, 2), (1, 0, 1)], [(0, 0, 3)],
                                          [(0, 1, 2), (1, 2, 1)], [(0, 1, 3)], [(0, 2, 3)],
                                          [(1, 0, 3)], [(1, 1, 3)], [(1, 2, 3)]])
        self.assertEqual(edges_of(DOUBLE), [[(0, *ends), (1, *ends)] for ends in
                                            [(0, 1), (0, 2), (0, 3), (1, 2), (1, 3), (2, 3)]])
        self.assertEqual(edges_of(BALL)[0], [(0, 0, 1), (2, 2, 1), (3, 3, 1)])
        self.assertEqual(edges_of(BALL)[3], [(0, 1, 2), (3, 1, 2)])
        self.assertEqual(edges_of(BALL)[6], [(1, 0, 1), (2, 0, 2), (3, 0, 3)])

    def test_edges_that_meet_themselves_in_one_direction(self):
        self.assertEqual(edges_of(BOTTLE), [[(0, 0, 1), (0, 0, 2), (0, 0, 3), (0, 1, 3), (0, 2, 1), (0, 2, 3)]])
        self.assertEqual(edges_of(TORUS),
                         [[(0, 0, 1), (0, 3, 1), (0, 3, 2), (1, 0, 3), (1, 2, 1), (1, 2, 3)],
                          [(0, 0, 2), (0, 0, 3), (0, 1, 2), (1, 1, 0), (1, 1, 3), (1, 2, 0)]])

    def test_the_direction_is_that_of_the_least_one_that_goes_up(self):
        # The contrary direction's least one goes up, too, (0, 1, 2), but it is greater.
        self.assertEqual(edges_of(ASLANT), [[(0, 0, 1), (0, 2, 3)], [(0, 0, 2), (0, 1, 3), (0, 2, 1)], [(0, 0, 3)]])

    def test_bent_edges_have_both_directions(self):
        self.assertEqual(edges_of(BENT), [[(0, 0, 1), (0, 1, 0)], [(0, 0, 2), (0, 1, 3)], [(0, 0, 3), (0, 1, 2)],
                                          [(0, 2, 3)]])
        self.assertEqual(edges_of(BENT_WITHIN), [[(0, 0, 1), (0, 1, 0)], [(0, 0, 2), (0, 1, 3)],
                                                 [(0, 0, 3), (0, 1, 2)], [(0, 2, 3), (0, 3, 2)]])
        self.assertEqual(edges_of(CLOSED), [[(0, *ends) for ends in permutations(range(4), 2)]])

    def test_all_of_a_bent_row_contrary_or_none(self):
        bent = 0
        for space in many_spaces():
            for row in edges_of(space):
                contrary = [(block, end, start) in row for block, start, end in row]
                self.assertEqual(len(set(contrary)), 1)
                bent += contrary[0]
        self.assertGreater(bent, 50)

    def test_by_merging(self):
        for space in many_spaces():
            told = edges_of(space)
            self.assertEqual(told, merged_edges(space))
            self.assertTrue(rows_of_tuples(told, 3))
            self.assertEqual(told, sorted(sorted(row) for row in told))
            self.assertTrue(all(row[0][1] < row[0][2] for row in told))


class TestFaces(unittest.TestCase):
    def test_by_hand(self):
        self.assertEqual(faces_of(ALONE), [[(0, 0)], [(0, 1)], [(0, 2)], [(0, 3)]])
        self.assertEqual(faces_of(FOLDED), [[(0, 0), (0, 1)], [(0, 2)], [(0, 3)]])
        self.assertEqual(faces_of(CLOSED), [[(0, 0), (0, 1)], [(0, 2), (0, 3)]])
        self.assertEqual(faces_of(PAIR), [[(0, 0)], [(0, 1)], [(0, 2)], [(0, 3), (1, 3)], [(1, 0)], [(1, 1)], [(1, 2)]])
        self.assertEqual(faces_of(CHAIN), [[(0, 0), (1, 3)], [(0, 1)], [(0, 2)], [(0, 3)], [(1, 0)],
                                           [(1, 1), (2, 2)], [(1, 2)], [(2, 0), (2, 3)], [(2, 1)]])
        self.assertEqual(faces_of(ASLANT), [[(0, 0), (0, 3)], [(0, 1)], [(0, 2)]])

    def test_by_merging(self):
        for space in many_spaces():
            told = faces_of(space)
            cells = list(product(range(len(space)), range(4)))
            self.assertEqual(told, merged(cells, [((b, f), (o, g)) for (b, f, _), (o, g, _) in glueings(space)]))
            self.assertTrue(rows_of_tuples(told, 2))


class TestCounted(unittest.TestCase):
    def test_by_hand(self):
        told = {ALONE: (4, 6, 4, 1), FOLDED: (3, 4, 3, 1), CLOSED: (1, 1, 2, 1), PAIR: (5, 9, 7, 2),
                DOUBLE: (4, 6, 4, 2), BALL: (5, 10, 10, 4), BOTTLE: (1, 1, 2, 1), TORUS: (1, 2, 4, 2),
                BENT: (2, 4, 3, 1), ASLANT: (1, 3, 3, 1)}
        for space, many in told.items():
            self.assertEqual(counted(space), many)
            self.assertIs(type(counted(space)), tuple)

    def test_twelve_blocks(self):
        self.assertEqual(counted(beside(BALL, beside(BALL, BALL))), (15, 30, 30, 12))

    def test_as_many_as_are_told(self):
        for space in many_spaces():
            self.assertEqual(counted(space), (len(corners_of(space)), len(edges_of(space)), len(faces_of(space)),
                                              len(space)))


class TestHandedInAndTold(unittest.TestCase):
    def test_lists_may_be_handed_in_and_are_not_changed(self):
        for space in SPACES + [BALL, BENT, TORUS]:
            for function in TOLD + [counted]:
                blocks = as_lists(space)
                self.assertEqual(function(blocks), function(space))
                self.assertEqual(blocks, as_lists(space))

    def test_told_lists_are_the_askers_own(self):
        for space in (ALONE, CHAIN, BENT):
            for function in TOLD:
                told, again = function(space), function(space)
                self.assertEqual(told, again)
                told[0].append("more")
                told[-1][0] = None
                del told[1]
                self.assertEqual(function(space), again)

    def test_what_is_told_stays_when_the_space_is_changed(self):
        for function in TOLD:
            blocks = as_lists(PAIR)
            told = function(blocks)
            blocks[0][3] = blocks[1][3] = None
            self.assertEqual(told, function(PAIR))

    def test_the_same_lists_with_a_face_parted(self):
        for space, block, face in ((PAIR, 0, 3), (FOLDED, 0, 1), (CHAIN, 1, 1), (BALL, 2, 3)):
            for function in TOLD + [counted]:
                blocks = as_lists(space)
                before = function(blocks)
                other, turn = blocks[block][face]
                blocks[block][face] = blocks[other][turn[face]] = None
                self.assertEqual(function(blocks), function(parted(space, block, face)))
                if space != BALL or function in (faces_of, counted):
                    self.assertNotEqual(function(blocks), before)


if __name__ == "__main__":
    unittest.main()
