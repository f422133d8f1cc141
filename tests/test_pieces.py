"""[15] Points, sides and pieces counted, [16] the parts and their words, and [2], [3] of these."""

import unittest
from itertools import product

from blockrooms.around import around
from blockrooms.cells import corners_of
from blockrooms.errors import NoSurface
from blockrooms.least import least_surfaces
from blockrooms.numbers import corner_surface, is_surface, sum_of
from blockrooms.pieces import part_words, pieces_counted, surface_parts
from blockrooms.spaces import beside, parted
from rooms_for_tests import (ALONE, ASLANT, BALL, BENT, BENT_WITHIN, BOTTLE, CHAIN, CLOSED, DOUBLE, FOLDED, LONE,
                             MORE_SPACES, PAIR, SPACES, TORUS, TWISTED, as_lists, many_spaces)
from surfaces_for_tests import Apart, many_surfaces
from test_numbers import LARGE, NO_NUMBERS, Refusing, unit

TWO = (LONE, LONE)
TOLD = [pieces_counted, surface_parts, part_words]
# One block whose faces 0 and 1, and 2 and 3, are joined, in six ways.
TURNED = (((0, (1, 2, 3, 0)), (0, (3, 0, 1, 2)), (0, (1, 2, 3, 0)), (0, (3, 0, 1, 2))),)
BOOK = (((0, (1, 0, 2, 3)), (0, (1, 0, 2, 3)), (0, (0, 1, 3, 2)), (0, (0, 1, 3, 2))),)
CROSSED = (((0, (1, 0, 2, 3)), (0, (1, 0, 2, 3)), (0, (1, 0, 3, 2)), (0, (1, 0, 3, 2))),)
MIXED = (((0, (1, 0, 3, 2)), (0, (1, 0, 3, 2)), (0, (1, 2, 3, 0)), (0, (3, 0, 1, 2))),)
ODDLY = (((0, (1, 0, 2, 3)), (0, (1, 0, 2, 3)), (0, (0, 2, 3, 1)), (0, (0, 3, 1, 2))),)


class TestCounted(Refusing):
    def test_triangles_alone(self):
        self.assertEqual(pieces_counted(ALONE, [1, 2, 3, 4, 0, 0, 0]), (30, 30, 10))
        # Two triangles that have a side in common, and the points at its ends.
        self.assertEqual(pieces_counted(PAIR, corner_surface(PAIR, 0)), (4, 5, 2))
        self.assertEqual(pieces_counted(DOUBLE, corner_surface(DOUBLE, 3)), (3, 3, 2))
        self.assertEqual(pieces_counted(TORUS, corner_surface(TORUS, 0)), (4, 12, 8))

    def test_quads_of_each_sort(self):
        for sort in (4, 5, 6):
            self.assertEqual(pieces_counted(ALONE, unit(sort)), (4, 4, 1))
            self.assertEqual(pieces_counted(ALONE, [3 * number for number in unit(sort)]), (12, 12, 3))
            self.assertEqual(pieces_counted(DOUBLE, sum_of(unit(sort, 2), unit(sort, 2, 1))), (4, 4, 2))

    def test_triangles_and_quads(self):
        self.assertEqual(pieces_counted(ALONE, [1, 0, 0, 2, 0, 3, 0]), (9 + 12, 9 + 12, 6))
        self.assertEqual(pieces_counted(PAIR, [0, 0, 0, 0, 0, 1, 0, 0, 0, 1, 0, 0, 0, 0]), (5, 6, 2))

    def test_a_block_joined_to_itself(self):
        # Faces 0 and 1 joined, edges 02 and 12 are one, so are 03 and 13: a quad that goes once around.
        self.assertEqual(pieces_counted(FOLDED, unit(4)), (2, 3, 1))
        self.assertEqual(pieces_counted(FOLDED, unit(2)), (2, 2, 1))
        self.assertEqual(pieces_counted(FOLDED, [1, 1, 0, 0, 0, 0, 0]), (4, 5, 2))
        self.assertEqual(pieces_counted(BOOK, unit(4)), (1, 2, 1))
        self.assertEqual(pieces_counted(BOTTLE, [1, 1, 1, 1, 0, 0, 0]), (2, 6, 4))

    def test_a_bent_edge(self):
        # Edge 01 is bent. One quad crosses it once, in a point that is one with itself.
        self.assertEqual(pieces_counted(BENT, unit(5)), (3, 3, 1))
        self.assertEqual(pieces_counted(BENT_WITHIN, unit(5)), (3, 2, 1))
        # Two cross it in two points that are one, three in two and one in the middle.
        for many in range(6):
            numbers = [many * number for number in unit(5)]
            self.assertEqual(pieces_counted(BENT, numbers), ((many + 1) // 2 + 2 * many, 3 * many, many))
            self.assertEqual(pieces_counted(BENT_WITHIN, numbers), ((many + 1) // 2 * 2 + many, 2 * many, many))
        # Two triangles cross it in two points that are one.
        self.assertEqual(pieces_counted(BENT, [1, 1, 0, 0, 0, 0, 0]), (3, 4, 2))
        self.assertEqual(pieces_counted(CLOSED, [1, 1, 1, 1, 0, 0, 0]), (1, 6, 4))

    def test_no_pieces(self):
        for space in SPACES + MORE_SPACES:
            self.assertEqual(pieces_counted(space, [0] * (7 * len(space))), (0, 0, 0))

    def test_numbers_of_thirty_figures(self):
        many = 10 * LARGE - 1
        self.assertEqual(pieces_counted(ALONE, [many] * 4 + [0, many, 0]), (16 * many, 16 * many, 5 * many))
        self.assertEqual(pieces_counted(BENT, [0, 0, 0, 0, 0, many, 0]), ((many + 1) // 2 + 2 * many, 3 * many, many))
        self.assertEqual(pieces_counted(BENT, [0, 0, 0, 0, 0, many - 1, 0])[0], (many - 1) // 2 + 2 * (many - 1))
        told = sum_of([many] * 4 + [0] * 3, [many] * 4 + [0] * 3)
        self.assertEqual(pieces_counted(CLOSED, told), (2 * many, 6 * 2 * many, 4 * 2 * many))

    def test_by_points_merged(self):
        for space, numbers in many_surfaces():
            told = pieces_counted(space, numbers)
            self.assertEqual(told, Apart(space, numbers).counted())
            self.assertEqual([type(part) for part in (told, *told)], [tuple, int, int, int])

    def test_no_surface(self):
        for function in TOLD:
            for numbers in NO_NUMBERS + [[0] * 14, unit(0), unit(5), [0, 0, 0, 0, 0, 1, 1]]:
                self.refused(NoSurface, function, FOLDED, numbers)
            self.refused(NoSurface, function, ALONE, [0, 0, 0, 0, 1, 0, 1])
            self.refused(NoSurface, function, TWO, [0] * 7)
            self.refused(NoSurface, function, TWO, [0] * 11 + [1, 1, 0])
            self.refused(NoSurface, function, PAIR, unit(0, 2))
            self.refused(NoSurface, function, CHAIN, unit(4, 3))


class TestParts(Refusing):
    def test_by_hand(self):
        self.assertEqual(surface_parts(FOLDED, [1, 1, 0, 2, 2, 0, 0]), [
            [0, 0, 0, 0, 1, 0, 0], [0, 0, 0, 0, 1, 0, 0], [0, 0, 0, 1, 0, 0, 0], [0, 0, 0, 1, 0, 0, 0],
            [1, 1, 0, 0, 0, 0, 0]])
        self.assertEqual(surface_parts(ALONE, [1, 0, 0, 1, 0, 0, 0]), [unit(3), unit(0)])
        # Two quads that turn about into each other are one part, a third one another.
        self.assertEqual(surface_parts(TURNED, [2 * number for number in unit(5)]), [[0, 0, 0, 0, 0, 2, 0]])
        self.assertEqual(surface_parts(TURNED, [3 * number for number in unit(5)]),
                         [[0, 0, 0, 0, 0, 1, 0], [0, 0, 0, 0, 0, 2, 0]])

    def test_no_parts(self):
        for space in SPACES + MORE_SPACES:
            self.assertEqual(surface_parts(space, [0] * (7 * len(space))), [])
            self.assertEqual(part_words(space, (0,) * (7 * len(space))), [])

    def test_parts_that_are_alike_are_told_each(self):
        self.assertEqual(surface_parts(ALONE, [5, 0, 0, 0, 0, 0, 0]), [unit(0)] * 5)
        self.assertEqual(part_words(ALONE, [5, 0, 0, 0, 0, 0, 0]), [(1, 1, True, True)] * 5)
        surface = corner_surface(BALL, 0)
        self.assertEqual(surface_parts(BALL, [3 * number for number in surface]), [surface] * 3)

    def test_corners_surfaces_have_the_words_of_what_lies_around(self):
        for space in many_spaces():
            for corner in range(len(corners_of(space))):
                surface = corner_surface(space, corner)
                self.assertEqual(surface_parts(space, surface), [surface])
                # It has the corner on one of its sides.
                self.assertEqual(part_words(space, surface), [(*around(space, corner), True)])

    def test_words_without_borders(self):
        for space, numbers, words in (
                (DOUBLE, sum_of(unit(4, 2), unit(4, 2, 1)), (2, 0, True, True)),
                (BENT_WITHIN, unit(5), (2, 0, True, False)), (ODDLY, [1, 1, 1, 1, 0, 0, 0], (1, 0, False, True)),
                (MIXED, unit(5), (1, 0, False, False)), (BOOK, unit(4), (0, 0, True, True)),
                (CROSSED, unit(4), (0, 0, False, True)), (TURNED, unit(5), (0, 0, False, False)),
                (CLOSED, [1, 1, 1, 1, 0, 0, 0], (-1, 0, False, True))):
            self.assertEqual(part_words(space, numbers), [words])

    def test_words_with_one_border_and_with_several(self):
        for space, numbers, words in (
                (ALONE, unit(6), (1, 1, True, True)), (BENT, unit(5), (1, 1, True, False)),
                (TWISTED, unit(3), (0, 1, False, True)), (ASLANT, unit(4), (0, 1, False, False)),
                (FOLDED, unit(4), (0, 2, True, True)), (ASLANT, [0, 1, 1, 0, 0, 0, 1], (0, 2, True, True))):
            self.assertEqual(part_words(space, numbers), [words])
        words = {words for space, numbers in many_surfaces() for words in part_words(space, numbers)}
        self.assertTrue({(-1, 3, True, True), (-2, 4, True, True), (-1, 2, False, True)} <= words)

    def test_a_part_of_each_kind_twice_over(self):
        # Two-sided: two of it. With one side: one that goes around it on both sides, of twice the number.
        for space, numbers, words in (
                (FOLDED, unit(4), [(0, 2, True, True)] * 2), (BOOK, unit(4), [(0, 0, True, True)] * 2),
                (CROSSED, unit(4), [(0, 0, False, True)] * 2), (TWISTED, unit(3), [(0, 1, False, True)] * 2),
                (ASLANT, unit(4), [(0, 2, True, True)]), (TURNED, unit(5), [(0, 0, True, True)]),
                (MIXED, unit(5), [(0, 0, False, True)]), (BENT, unit(5), [(1, 1, True, True)]),
                (BENT_WITHIN, unit(5), [(2, 0, True, True)])):
            twice = [2 * number for number in numbers]
            self.assertEqual(part_words(space, twice), words)
            self.assertEqual([words for _, words in Apart(space, twice).words()], words)
            self.assertEqual(surface_parts(space, twice), [twice] if len(words) == 1 else [numbers] * 2)

    def test_parts_and_words_by_points(self):
        for space, numbers in many_surfaces():
            told = Apart(space, numbers).words()
            self.assertEqual(surface_parts(space, numbers), [part for part, _ in told])
            self.assertEqual(part_words(space, numbers), [words for _, words in told])

    def test_the_words_are_in_the_parts_order(self):
        numbers = [1, 1, 3, 2, 2, 0, 0]
        parts = surface_parts(FOLDED, numbers)
        self.assertEqual(parts, sorted(parts))
        self.assertEqual(part_words(FOLDED, numbers), [part_words(FOLDED, part)[0] for part in parts])
        self.assertEqual(part_words(FOLDED, numbers), [(0, 2, True, True)] * 2 + [(1, 1, True, True)] * 6)

    def test_parts_are_surfaces_that_sum_to_the_whole(self):
        for space, numbers in many_surfaces():
            parts, total = surface_parts(space, numbers), [0] * len(numbers)
            for part in parts:
                self.assertIs(is_surface(space, part), True)
                self.assertEqual(surface_parts(space, part), [part])
                total = sum_of(total, part)
            self.assertEqual(total, list(numbers))
            points, sides, pieces = pieces_counted(space, numbers)
            self.assertEqual(sum(words[0] for words in part_words(space, numbers)), points - sides + pieces)

    def test_two_hundred_pieces_in_twelve_blocks(self):
        space = beside(BALL, beside(BALL, BALL))
        surface = [0] * 84
        for corner in range(15):
            for _ in range(4):
                surface = sum_of(surface, corner_surface(space, corner))
        self.assertEqual(sum(surface), 192)
        self.assertEqual(len(surface_parts(space, surface)), 60)
        self.assertEqual(sorted(part_words(space, surface)), [(1, 1, True, True)] * 48 + [(2, 0, True, True)] * 12)
        self.assertEqual(surface_parts(ALONE, [0, 0, 0, 200, 0, 0, 0]), [unit(3)] * 200)
        # All quads around and around, in two turns of the ring, and one between them.
        self.assertEqual(surface_parts(ASLANT, [0, 0, 0, 0, 199, 0, 0]), [[0, 0, 0, 0, 1, 0, 0]] +
                         [[0, 0, 0, 0, 2, 0, 0]] * 99)

    def test_the_kinds_of_what_is_told(self):
        for space, numbers in many_surfaces()[:200]:
            parts, words = surface_parts(space, tuple(numbers)), part_words(space, tuple(numbers))
            self.assertEqual((type(parts), type(words)), (list, list))
            self.assertTrue(all(type(part) is list and all(type(number) is int for number in part) for part in parts))
            for told in words:
                self.assertEqual([type(part) for part in (told, *told)], [tuple, int, int, bool, bool])


class TestHandedInAndTold(unittest.TestCase):
    def test_what_is_handed_in_is_not_changed(self):
        for space, numbers in many_surfaces()[::30]:
            for function in TOLD:
                blocks, handed = as_lists(space), list(numbers)
                self.assertEqual(function(blocks, handed), function(space, tuple(numbers)))
                self.assertEqual(function(blocks, handed), function(blocks, handed))
                self.assertEqual((blocks, handed), (as_lists(space), list(numbers)))

    def test_told_lists_are_the_askers_own(self):
        numbers = [1, 1, 0, 2, 2, 0, 0]
        told, again = surface_parts(FOLDED, numbers), surface_parts(FOLDED, numbers)
        told[0][0] = 9
        self.assertEqual(told[1], again[1])
        told.pop()
        self.assertEqual(surface_parts(FOLDED, numbers), again)
        numbers[0] = 7
        self.assertEqual(surface_parts(FOLDED, [1, 1, 0, 2, 2, 0, 0]), again)
        words = part_words(FOLDED, [1, 1, 0, 2, 2, 0, 0])
        words.clear()
        self.assertEqual(len(part_words(FOLDED, [1, 1, 0, 2, 2, 0, 0])), 5)
        one = unit(4)
        surface_parts(FOLDED, one)[0][0] = 9
        self.assertEqual(one, unit(4))

    def test_the_same_lists_with_a_face_parted_or_another_number(self):
        for space, block, face in ((BOOK, 0, 0), (DOUBLE, 0, 3), (TURNED, 0, 2)):
            for numbers in least_surfaces(space):
                for function in TOLD:
                    blocks = as_lists(space)
                    function(blocks, numbers)
                    other, turn = blocks[block][face]
                    blocks[block][face] = blocks[other][turn[face]] = None
                    self.assertEqual(function(blocks, numbers), function(parted(space, block, face), numbers))
        numbers = unit(4)
        self.assertEqual(part_words(BOOK, numbers), [(0, 0, True, True)])
        numbers[2] = numbers[3] = 1
        self.assertEqual(part_words(BOOK, numbers), [(0, 0, True, True), (2, 0, True, True)])
        self.assertEqual(pieces_counted(BOOK, numbers), (1 + 3, 2 + 3, 3))

    def test_of_spaces_beside_each_other(self):
        for one, other in product(many_surfaces()[10::90], many_surfaces()[::110]):
            both, numbers = beside(one[0], other[0]), list(one[1]) + list(other[1])
            counts = [pieces_counted(*surface) for surface in (one, other)]
            self.assertEqual(pieces_counted(both, numbers), tuple(map(sum, zip(*counts))))
            pairs = [(part + [0] * len(other[1]), words) for part, words in
                     zip(surface_parts(*one), part_words(*one))] + \
                    [([0] * len(one[1]) + part, words) for part, words in
                     zip(surface_parts(*other), part_words(*other))]
            self.assertEqual(list(zip(surface_parts(both, numbers), part_words(both, numbers))), sorted(pairs))


if __name__ == "__main__":
    unittest.main()
