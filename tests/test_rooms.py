"""[17] The rooms that are left where a space is cut along a surface, and [2], [3] of them."""

import unittest
from itertools import product

from blockrooms.cells import corners_of, parts_of
from blockrooms.errors import NoSurface
from blockrooms.least import least_surfaces
from blockrooms.numbers import corner_surface, sum_of
from blockrooms.rooms import rooms_of
from blockrooms.spaces import beside, parted
from rooms_for_tests import (ALONE, ASLANT, BALL, BENT, BENT_WITHIN, BOTTLE, CHAIN, CLOSED, DOUBLE, FOLDED, LONE,
                             MORE_SPACES, PAIR, SPACES, TORUS, TWISTED, as_lists, many_spaces)
from surfaces_for_tests import many_surfaces, rooms_by_edges
from test_numbers import NO_NUMBERS, Refusing, unit

TWO = (LONE, LONE)


def times(many, numbers):
    return [many * number for number in numbers]


class TestRooms(Refusing):
    def test_without_any_surface(self):
        self.assertEqual(rooms_of(ALONE, [0] * 7), [[0, 1, 2, 3]])
        self.assertEqual(rooms_of(TWO, [0] * 14), [[0, 1, 2, 3], [4, 5, 6, 7]])
        self.assertEqual(rooms_of(TORUS, [0] * 14), [[0]])
        for space in many_spaces():
            cells = corners_of(space)
            told = sorted([k for k, row in enumerate(cells) if row[0][0] in part] for part in parts_of(space))
            self.assertEqual(rooms_of(space, [0] * (7 * len(space))), told)

    def test_along_triangles_of_one_block(self):
        self.assertEqual(rooms_of(ALONE, unit(0)), [[0], [1, 2, 3]])
        self.assertEqual(rooms_of(ALONE, unit(2)), [[0, 1, 3], [2]])
        self.assertEqual(rooms_of(ALONE, [0, 0, 3, 0, 0, 0, 0]), [[], [], [0, 1, 3], [2]])
        self.assertEqual(rooms_of(ALONE, [1, 1, 1, 1, 0, 0, 0]), [[], [0], [1], [2], [3]])

    def test_along_quads_of_one_block(self):
        self.assertEqual(rooms_of(ALONE, unit(4)), [[0, 1], [2, 3]])
        self.assertEqual(rooms_of(ALONE, unit(5)), [[0, 2], [1, 3]])
        self.assertEqual(rooms_of(ALONE, unit(6)), [[0, 3], [1, 2]])
        self.assertEqual(rooms_of(ALONE, [0, 0, 0, 0, 0, 4, 0]), [[], [], [], [0, 2], [1, 3]])
        self.assertEqual(rooms_of(ALONE, [1, 0, 0, 2, 0, 0, 1]), [[], [], [0], [1, 2], [3]])
        self.assertEqual(rooms_of(ALONE, [0, 2, 0, 0, 0, 0, 2]), [[], [], [0, 3], [1], [2]])

    def test_along_a_corner_s_surface_once_and_several_times(self):
        for space in many_spaces():
            cells, parts = corners_of(space), parts_of(space)
            for corner in range(len(cells)):
                part = [part for part in parts if cells[corner][0][0] in part][0]
                others = sorted([k for k, row in enumerate(cells) if row[0][0] in other] for other in parts
                                if other != part)
                rest = [k for k, row in enumerate(cells) if row[0][0] in part and k != corner]
                for many in (1, 2, 5):
                    told = sorted([[corner], rest] + [[]] * (many - 1) + others)
                    self.assertEqual(rooms_of(space, times(many, corner_surface(space, corner))), told)

    def test_around_all_corners(self):
        for space in many_spaces():
            total, many = [1, 1, 1, 1, 0, 0, 0] * len(space), len(corners_of(space))
            self.assertEqual(rooms_of(space, total), sorted([[k] for k in range(many)] + [[] for _ in parts_of(space)]))

    def test_along_one_with_quads_in_several_blocks(self):
        self.assertEqual(rooms_of(DOUBLE, sum_of(unit(4, 2), unit(4, 2, 1))), [[0, 1], [2, 3]])
        self.assertEqual(rooms_of(DOUBLE, times(3, sum_of(unit(4, 2), unit(4, 2, 1)))), [[], [], [0, 1], [2, 3]])
        # A triangle of the one block, a quad of the other one.
        self.assertEqual(rooms_of(PAIR, sum_of(unit(1, 2), unit(4, 2, 1))), [[0, 2, 3], [1, 4]])

    def test_along_one_that_parts_nothing(self):
        # A ring around a hole, and what has one side alone.
        for space, numbers in ((ASLANT, unit(4)), (BENT, unit(5)), (BENT_WITHIN, unit(6))):
            self.assertEqual(len(rooms_of(space, numbers)), 1)
            self.assertEqual(rooms_of(space, times(2, numbers)), sorted([[]] + rooms_of(space, numbers)))
            self.assertEqual(rooms_of(space, times(3, numbers)), rooms_of(space, times(2, numbers)))
        self.assertEqual(rooms_of(ASLANT, [1, 0, 0, 1, 0, 1, 0]), [[0]])
        self.assertEqual(rooms_of(ASLANT, [2, 0, 0, 2, 0, 2, 0]), [[], [0]])

    def test_rooms_without_corners_stand_first(self):
        self.assertEqual(rooms_of(CLOSED, [2, 2, 2, 2, 0, 0, 0]), [[], [], [0]])
        self.assertEqual(rooms_of(ASLANT, [0, 1, 1, 0, 0, 0, 1]), [[], [0]])
        self.assertEqual(rooms_of(TWISTED, [0, 0, 1, 1, 1, 0, 0]), [[], [0], [1]])
        self.assertEqual(rooms_of(BOTTLE, [1, 1, 1, 1, 0, 0, 0]), [[], [0]])

    def test_by_edges(self):
        most = 0
        for space, numbers in many_surfaces():
            told = rooms_of(space, numbers)
            self.assertEqual(told, rooms_by_edges(space, numbers), (space, numbers))
            most = max(most, len(told))
        self.assertGreater(most, 6)

    def test_each_corner_once_all_sorted(self):
        for space, numbers in many_surfaces():
            told = rooms_of(space, numbers)
            self.assertEqual(told, sorted(told))
            self.assertEqual(sorted(k for room in told for k in room), list(range(len(corners_of(space)))))
            self.assertTrue(all(room == sorted(room) for room in told))

    def test_twelve_blocks_and_two_hundred_pieces(self):
        space, total = beside(BALL, beside(BALL, BALL)), [0] * 84
        for corner in range(15):
            for _ in range(4):
                total = sum_of(total, corner_surface(space, corner))
        self.assertEqual(rooms_of(space, total), [[]] * (15 * 3 + 3) + [[k] for k in range(15)])
        self.assertEqual(rooms_of(FOLDED, [0, 0, 0, 0, 200, 0, 0]), [[]] * 199 + [[0], [1, 2]])

    def test_the_kinds_of_what_is_told(self):
        for space in SPACES + MORE_SPACES:
            told = rooms_of(space, (1, 1, 1, 1, 0, 0, 0) * len(space))
            self.assertIs(type(told), list)
            self.assertTrue(all(type(room) is list and all(type(k) is int for k in room) for room in told))

    def test_no_surface(self):
        for numbers in NO_NUMBERS + [[0] * 14, unit(0), unit(5), [0, 0, 0, 0, 0, 1, 1]]:
            self.refused(NoSurface, rooms_of, FOLDED, numbers)
        self.refused(NoSurface, rooms_of, ALONE, [0, 0, 0, 0, 1, 1, 0])
        self.refused(NoSurface, rooms_of, TWO, [0] * 7)
        self.refused(NoSurface, rooms_of, CHAIN, unit(4, 3))


class TestHandedInAndTold(unittest.TestCase):
    def test_what_is_handed_in_is_not_changed(self):
        for space, numbers in many_surfaces()[::30]:
            blocks, handed = as_lists(space), list(numbers)
            self.assertEqual(rooms_of(blocks, handed), rooms_of(space, tuple(numbers)))
            self.assertEqual((blocks, handed), (as_lists(space), list(numbers)))

    def test_told_lists_are_the_askers_own(self):
        told, again = rooms_of(ALONE, [0, 0, 3, 0, 0, 0, 0]), rooms_of(ALONE, [0, 0, 3, 0, 0, 0, 0])
        told[0].append(1)
        self.assertEqual(told[1], [])
        told.pop()
        self.assertEqual(rooms_of(ALONE, [0, 0, 3, 0, 0, 0, 0]), again)

    def test_the_same_lists_with_a_face_parted_or_another_number(self):
        for space, block, face in ((DOUBLE, 0, 3), (ASLANT, 0, 0), (FOLDED, 0, 1)):
            for numbers in least_surfaces(space):
                blocks = as_lists(space)
                rooms_of(blocks, numbers)
                other, turn = blocks[block][face]
                blocks[block][face] = blocks[other][turn[face]] = None
                self.assertEqual(rooms_of(blocks, numbers), rooms_of(parted(space, block, face), numbers))
        numbers = unit(4)
        self.assertEqual(rooms_of(FOLDED, numbers), [[0], [1, 2]])
        numbers[4] = 2
        self.assertEqual(rooms_of(FOLDED, numbers), [[], [0], [1, 2]])

    def test_of_spaces_beside_each_other(self):
        for one, other in product(many_surfaces()[10::90], many_surfaces()[::110]):
            behind = len(corners_of(one[0]))
            self.assertEqual(rooms_of(beside(one[0], other[0]), list(one[1]) + list(other[1])),
                             sorted(rooms_of(*one) + [[k + behind for k in room] for room in rooms_of(*other)]))


if __name__ == "__main__":
    unittest.main()
