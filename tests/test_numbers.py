"""[12] Arcs, [13] numbers that fit, surfaces and sums, and [2], [3] of them."""

import unittest
from itertools import product

from blockrooms.cells import corners_of
from blockrooms.errors import NoCorner, NoFace, NoNumbers
from blockrooms.numbers import arcs, corner_surface, fits, go_together, is_surface, sum_of
from blockrooms.spaces import beside, parted
from rooms_for_tests import (ALONE, ASLANT, BALL, BENT, CHAIN, CLOSED, DOUBLE, FOLDED, LONE, ODD_THINGS, PAIR, RING,
                             SPACES, TORUS, as_lists, glueings, many_spaces, merged_corners)

LARGE = 10 ** 29
TWO = (LONE, LONE)
# Which number is asked at each face, around each corner, beside the triangles': the sort of quads.
QUAD_AT = {(0, 1): 4, (0, 2): 5, (0, 3): 6, (1, 0): 4, (1, 2): 6, (1, 3): 5,
           (2, 0): 5, (2, 1): 6, (2, 3): 4, (3, 0): 6, (3, 1): 5, (3, 2): 4}
NO_NUMBERS = ODD_THINGS + [
    0, 7, "", "0" * 7, (), [], [0] * 6, [0] * 8, [0] * 13, [0] * 15, [[0] * 7], [-1] + [0] * 6, [0] * 6 + [-LARGE],
    [True] + [0] * 6, [0] * 6 + [False], ["0"] + [0] * 6, [0] * 3 + [None] + [0] * 3, [0.0] * 7, [[0]] * 7,
    [0] * 13 + [-1], [0] * 7 + [True] * 7, range(7), {n: 0 for n in range(7)}, {0, 1, 2, 3, 4, 5, 6}, iter([0] * 7),
    b"0000000", [0, 0, 0, 0, 0, 0, 1.0]]


def unit(sort, many=1, block=0):
    """The numbers of one triangle or quad alone."""
    return [int(at == 7 * block + sort) for at in range(7 * many)]


def parts_off(sort, corner, face):
    """Whether a triangle or quad of a sort cuts the face in an arc around the corner."""
    if sort < 4:
        return sort == corner
    side = {0, sort - 3}
    return all((corner in side) != (other in side) for other in {0, 1, 2, 3} - {corner, face})


def arcs_at(numbers, block, face, corner):
    return sum(numbers[7 * block + sort] for sort in range(7) if parts_off(sort, corner, face))


def all_fit(space, numbers):
    return all(arcs_at(numbers, b, f, c) == arcs_at(numbers, o, g, d)
               for (b, f, c), (o, g, d) in glueings(space) if c != f)


def quads_agree(numbers):
    return all(sum(n > 0 for n in numbers[at + 4:at + 7]) < 2 for at in range(0, len(numbers), 7))


def some_numbers(many, count):
    """Lists of numbers for so many blocks, always the same ones."""
    number, told = 1, []
    for _ in range(count):
        row = []
        for _ in range(7 * many):
            number = (number * 1103515245 + 12345) % 2 ** 31
            row.append((number >> 16) % 3)
        told.append(row)
    return told


class Refusing(unittest.TestCase):
    def refused(self, error, function, *handed, **named):
        with self.assertRaises(error, msg=repr((handed, named))) as caught:
            function(*handed, **named)
        self.assertIs(caught.exception.__class__, error)


class TestArcs(Refusing):
    def test_each_sort_at_each_face_and_corner(self):
        for face, corner, sort in product(range(4), range(4), range(7)):
            if face != corner:
                told = arcs(unit(sort), 0, face, corner=corner)
                self.assertEqual(told, int(sort in (corner, QUAD_AT[face, corner])), (face, corner, sort))
                self.assertEqual(told, int(parts_off(sort, corner, face)))
                self.assertIs(type(told), int)

    def test_numbers_added(self):
        numbers = [1, 20, 300, 4000, 50000, 600000, 7000000]
        self.assertEqual(arcs(numbers, 0, 0, corner=1), 50020)
        self.assertEqual(arcs(numbers, 0, 0, corner=2), 600300)
        self.assertEqual(arcs(numbers, 0, 0, corner=3), 7004000)
        self.assertEqual(arcs(numbers, 0, 3, corner=0), 7000001)
        self.assertEqual(arcs(numbers, 0, 3, corner=1), 600020)
        self.assertEqual(arcs(numbers, 0, 3, corner=2), 50300)
        for face, corner in QUAD_AT:
            self.assertEqual(arcs(tuple(numbers), 0, face, corner=corner), numbers[corner] +
                             numbers[QUAD_AT[face, corner]])

    def test_the_block_s_own_numbers(self):
        numbers = list(range(35))
        for block in range(5):
            for face, corner in QUAD_AT:
                self.assertEqual(arcs(numbers, block, face, corner=corner),
                                 14 * block + corner + QUAD_AT[face, corner])

    def test_numbers_of_thirty_figures(self):
        numbers = [LARGE * 9 + sort for sort in range(7)]
        for face, corner in QUAD_AT:
            self.assertEqual(arcs(numbers, 0, face, corner=corner), LARGE * 18 + corner + QUAD_AT[face, corner])

    def test_the_corner_is_handed_by_its_name(self):
        with self.assertRaises(TypeError):
            arcs([0] * 7, 0, 0, 1)

    def test_no_numbers(self):
        for numbers in NO_NUMBERS:
            self.refused(NoNumbers, arcs, numbers, 0, 0, corner=1)

    def test_no_face(self):
        for block in ODD_THINGS + [-1, 2, LARGE, [0], (0,)]:
            self.refused(NoFace, arcs, [0] * 14, block, 0, corner=1)
        self.refused(NoFace, arcs, [0] * 7, 1, 0, corner=1)
        for face in ODD_THINGS + [-1, 4, LARGE, [0], (0,)]:
            self.refused(NoFace, arcs, [0] * 7, 0, face, corner=1)

    def test_no_corner(self):
        for corner in ODD_THINGS + [-1, -4, 4, LARGE, [0], (0,)]:
            for face in range(4):
                self.refused(NoCorner, arcs, [0] * 7, 0, face, corner=corner)

    def test_no_corner_where_it_is_the_block_s_but_not_the_face_s(self):
        for face in range(4):
            self.refused(NoCorner, arcs, [1] * 14, 1, face, corner=face)

    def test_the_first_refusal_goes_first(self):
        for block, face, corner in product((0, 1, True), (0, 4, "0"), (1, 0, 4, None)):
            for numbers in ([0] * 6, [], [0] * 6 + [-1], None):
                self.refused(NoNumbers, arcs, numbers, block, face, corner=corner)
        for corner in (1, 0, 4, None):
            for block, face in ((1, 0), (True, 0), (0, 4), (0, "0"), (1, 4)):
                self.refused(NoFace, arcs, [0] * 7, block, face, corner=corner)

    def test_what_is_handed_in_is_not_changed(self):
        numbers = list(range(14))
        arcs(numbers, 1, 2, corner=3)
        self.refused(NoFace, arcs, numbers, 2, 2, corner=3)
        self.refused(NoCorner, arcs, numbers, 1, 2, corner=2)
        self.assertEqual(numbers, list(range(14)))
        numbers[7 + 3] = 100
        self.assertEqual(arcs(numbers, 1, 2, corner=3), 111)


class TestFits(Refusing):
    def test_faces_of_two_blocks_by_hand(self):
        # Face 3 to face 3, corner 1 to 2, 2 to 1: one triangle around 1, and its mate around 2.
        self.assertIs(fits(PAIR, sum_of(unit(1, 2), unit(2, 2, 1))), True)
        self.assertIs(fits(PAIR, sum_of(unit(1, 2), unit(1, 2, 1))), False)
        self.assertIs(fits(PAIR, unit(1, 2)), False)
        self.assertIs(fits(PAIR, unit(2, 2, 1)), False)
        # Triangles around corner 3 do not come to the face.
        self.assertIs(fits(PAIR, unit(3, 2)), True)
        # Quad 4 lies around corner 2 there, quad 5 around 1.
        self.assertIs(fits(PAIR, sum_of(unit(4, 2), unit(5, 2, 1))), True)
        self.assertIs(fits(PAIR, sum_of(unit(4, 2), unit(4, 2, 1))), False)
        self.assertIs(fits(PAIR, sum_of(unit(4, 2), unit(1, 2, 1))), True)
        self.assertIs(fits(PAIR, sum_of(unit(6, 2), unit(0, 2, 1))), True)

    def test_faces_of_one_block_by_hand(self):
        self.assertIs(fits(FOLDED, [1, 1, 0, 0, 0, 0, 0]), True)
        self.assertIs(fits(FOLDED, [1, 0, 0, 0, 0, 0, 0]), False)
        self.assertIs(fits(FOLDED, [0, 1, 0, 0, 0, 0, 0]), False)
        self.assertIs(fits(FOLDED, [0, 0, 5, 7, 0, 0, 0]), True)
        self.assertIs(fits(FOLDED, unit(4)), True)
        # Quad 5 lies around corner 2 at face 0, around 3 at face 1.
        self.assertIs(fits(FOLDED, unit(5)), False)
        self.assertIs(fits(FOLDED, unit(6)), False)
        self.assertIs(fits(FOLDED, [0, 0, 0, 0, 0, 1, 1]), True)

    def test_all_fit_where_nothing_is_joined(self):
        for numbers in some_numbers(2, 50):
            self.assertIs(fits(TWO, numbers), True)

    def test_noughts_and_all_corners_fit(self):
        for space in many_spaces():
            self.assertIs(fits(space, [0] * (7 * len(space))), True)
            self.assertIs(fits(space, [3, 3, 3, 3, 0, 0, 0] * len(space)), True)
            self.assertIs(fits(space, [0, 0, 0, 0, LARGE, LARGE, LARGE] * len(space)), True)

    def test_numbers_of_thirty_figures(self):
        numbers = [LARGE * 9 + 1, LARGE * 9 + 1, 0, 0, 0, 0, 0]
        self.assertIs(fits(FOLDED, numbers), True)
        self.assertIs(fits(FOLDED, [LARGE * 9 + 1, LARGE * 9, 0, 0, 0, 0, 0]), False)

    def test_one_block_by_all_small_numbers(self):
        spaces = [space for space in many_spaces() if len(space) == 1]
        for space in spaces:
            for numbers in product((0, 1), repeat=7):
                self.assertIs(fits(space, numbers), all_fit(space, numbers))
                self.assertIs(is_surface(space, numbers), all_fit(space, numbers) and quads_agree(numbers))

    def test_a_few_triangles_and_quads(self):
        found = {True: 0, False: 0}
        for space in [space for space in many_spaces() if len(space) == 2]:
            for at, other in product(range(14), repeat=2):
                numbers = [int(n in (at, other)) for n in range(14)]
                told = fits(space, numbers)
                self.assertIs(told, all_fit(space, numbers))
                self.assertIs(is_surface(space, numbers), told and quads_agree(numbers))
                found[told] += 1
        self.assertGreater(min(found.values()), 100)


class TestIsSurface(Refusing):
    def test_two_sorts_of_quads_in_one_block(self):
        for one, other in ((4, 5), (4, 6), (5, 6)):
            self.assertIs(is_surface(ALONE, sum_of(unit(one), unit(other))), False)
            self.assertIs(is_surface(ALONE, sum_of(unit(one), unit(one))), True)
            self.assertIs(fits(ALONE, sum_of(unit(one), unit(other))), True)
            self.assertIs(is_surface(TWO, sum_of(unit(one, 2, 1), unit(other, 2, 1))), False)
            # Unlike sorts in unlike blocks are let by.
            self.assertIs(is_surface(TWO, sum_of(unit(one, 2), unit(other, 2, 1))), True)
        self.assertIs(is_surface(ALONE, [0, 0, 0, 0, 1, 1, 1]), False)
        self.assertIs(is_surface(ALONE, [0, 0, 0, 0, LARGE, 0, LARGE]), False)

    def test_many_of_one_sort_and_triangles(self):
        self.assertIs(is_surface(ALONE, [1, 2, 3, 4, 5, 0, 0]), True)
        self.assertIs(is_surface(ALONE, (0, 0, 0, 0, 0, 0, LARGE)), True)
        self.assertIs(is_surface(FOLDED, [2, 2, 0, 0, 3, 0, 0]), True)
        self.assertIs(is_surface(PAIR, sum_of(unit(4, 2), unit(5, 2, 1))), True)

    def test_numbers_that_do_not_fit(self):
        self.assertIs(is_surface(FOLDED, [1, 0, 0, 0, 0, 0, 0]), False)
        self.assertIs(is_surface(FOLDED, unit(5)), False)
        self.assertIs(is_surface(PAIR, unit(4, 2)), False)
        # These fit, but with two sorts of quads.
        self.assertIs(is_surface(FOLDED, [0, 0, 0, 0, 0, 1, 1]), False)

    def test_noughts_are_a_surface(self):
        for space in many_spaces():
            self.assertIs(is_surface(space, [0] * (7 * len(space))), True)


class TestGoTogether(Refusing):
    def test_two_that_go_together(self):
        self.assertIs(go_together(ALONE, unit(4), unit(4)), True)
        self.assertIs(go_together(ALONE, unit(0), unit(6)), True)
        self.assertIs(go_together(ALONE, [0] * 7, [0] * 7), True)
        self.assertIs(go_together(FOLDED, [1, 1, 0, 0, 0, 0, 0], (0, 0, 2, 0, 3, 0, 0)), True)
        self.assertIs(go_together(TWO, unit(4, 2), unit(5, 2, 1)), True)

    def test_two_that_do_not(self):
        for one, other in ((4, 5), (4, 6), (5, 6), (6, 4), (5, 4)):
            self.assertIs(go_together(ALONE, unit(one), unit(other)), False)
            self.assertIs(go_together(TWO, unit(one, 2, 1), unit(other, 2, 1)), False)

    def test_where_one_is_no_surface(self):
        self.assertIs(go_together(ALONE, unit(4), [0, 0, 0, 0, 1, 1, 0]), False)
        self.assertIs(go_together(ALONE, [0, 0, 0, 0, 1, 1, 0], unit(0)), False)
        self.assertIs(go_together(FOLDED, unit(0), [0] * 7), False)
        # The sum would be a surface.
        self.assertIs(is_surface(FOLDED, sum_of(unit(0), unit(1))), True)
        self.assertIs(go_together(FOLDED, unit(0), unit(1)), False)

    def test_corners_surfaces_go_with_every_surface(self):
        for space in [space for space in many_spaces() if len(space) == 1][::3]:
            for numbers in product((0, 1), repeat=7):
                for corner in range(len(corners_of(space))):
                    told = go_together(space, corner_surface(space, corner), numbers)
                    self.assertIs(told, all_fit(space, numbers) and quads_agree(numbers))

    def test_by_sums(self):
        small = [unit(sort) for sort in range(7)] + [[1, 1, 0, 0, 0, 0, 0], [0, 0, 0, 0, 0, 1, 1], [0] * 7]
        for space in (ALONE, FOLDED, CLOSED, ASLANT, BENT):
            for one, other in product(small, repeat=2):
                told = all(all_fit(space, numbers) and quads_agree(numbers)
                           for numbers in (one, other, [a + b for a, b in zip(one, other)]))
                self.assertIs(go_together(space, one, other), told)


class TestNoNumbers(Refusing):
    def test_of_fits_and_is_surface(self):
        for function in (fits, is_surface):
            for numbers in NO_NUMBERS:
                self.refused(NoNumbers, function, ALONE, numbers)
                self.refused(NoNumbers, function, TWO, numbers)

    def test_a_list_of_another_length_than_the_spaces(self):
        for function in (fits, is_surface):
            self.refused(NoNumbers, function, ALONE, [0] * 14)
            self.refused(NoNumbers, function, TWO, [0] * 7)
            self.refused(NoNumbers, function, TWO, [0] * 21)
            self.refused(NoNumbers, function, CHAIN, [0] * 14)

    def test_of_any_of_two(self):
        for numbers in NO_NUMBERS + [[0] * 14]:
            self.refused(NoNumbers, go_together, ALONE, numbers, [0] * 7)
            self.refused(NoNumbers, go_together, ALONE, [0] * 7, numbers)
            # Also behind one that is no surface.
            self.refused(NoNumbers, go_together, ALONE, [0, 0, 0, 0, 1, 1, 0], numbers)
            self.refused(NoNumbers, go_together, FOLDED, unit(0), numbers)
        self.refused(NoNumbers, go_together, TWO, [0] * 7, [0] * 7)
        self.refused(NoNumbers, go_together, ALONE, [0] * 14, [0] * 14)

    def test_of_sums(self):
        for numbers in NO_NUMBERS:
            self.refused(NoNumbers, sum_of, numbers, [0] * 7)
            self.refused(NoNumbers, sum_of, [0] * 7, numbers)
            self.refused(NoNumbers, sum_of, numbers, numbers)

    def test_of_sums_of_unlike_lengths(self):
        self.refused(NoNumbers, sum_of, [0] * 7, [0] * 14)
        self.refused(NoNumbers, sum_of, [0] * 14, [0] * 7)
        self.refused(NoNumbers, sum_of, [0] * 21, (0,) * 14)

    def test_what_is_refused_is_not_changed(self):
        one, other = [1] * 7, [2] * 13 + [-1]
        self.refused(NoNumbers, sum_of, one, other)
        self.refused(NoNumbers, go_together, TWO, one, other)
        self.refused(NoNumbers, fits, TWO, other)
        self.assertEqual((one, other), ([1] * 7, [2] * 13 + [-1]))


class TestCornerSurface(Refusing):
    def test_by_hand(self):
        self.assertEqual([corner_surface(ALONE, c) for c in range(4)], [unit(c) for c in range(4)])
        self.assertEqual(corner_surface(FOLDED, 0), [1, 1, 0, 0, 0, 0, 0])
        self.assertEqual(corner_surface(FOLDED, 1), [0, 0, 1, 0, 0, 0, 0])
        self.assertEqual(corner_surface(PAIR, 1), [0, 1, 0, 0, 0, 0, 0, 0, 0, 1, 0, 0, 0, 0])
        self.assertEqual(corner_surface(PAIR, 4), [0, 0, 0, 0, 0, 0, 0, 0, 0, 0, 1, 0, 0, 0])
        self.assertEqual(corner_surface(TORUS, 0), [1, 1, 1, 1, 0, 0, 0] * 2)
        self.assertEqual(corner_surface(BALL, 0), [1, 0, 0, 0, 0, 0, 0, 0, 1, 0, 0, 0, 0, 0,
                                                   0, 0, 1, 0, 0, 0, 0, 0, 0, 0, 1, 0, 0, 0])

    def test_each_is_a_surface_and_all_go_together(self):
        for space in many_spaces():
            rows = merged_corners(space)
            told = [corner_surface(space, k) for k in range(len(rows))]
            for row, numbers in zip(rows, told):
                self.assertIs(type(numbers), list)
                self.assertEqual({divmod(at, 7) for at, number in enumerate(numbers) if number == 1}, set(row))
                self.assertEqual((len(numbers), sum(numbers)), (7 * len(space), len(row)))
                self.assertIs(is_surface(space, numbers), True)
                self.assertIs(go_together(space, told[0], numbers), True)
            self.assertEqual([sum(column) for column in zip(*told)], [1, 1, 1, 1, 0, 0, 0] * len(space))

    def test_no_corner(self):
        for space in SPACES + [BALL, RING]:
            many = len(corners_of(space))
            for corner in ODD_THINGS + [-1, -many, many, many + 1, LARGE, "1", [0], (0,), (0, 0)]:
                self.refused(NoCorner, corner_surface, space, corner)

    def test_told_lists_are_the_askers_own(self):
        blocks = as_lists(FOLDED)
        told = corner_surface(blocks, 0)
        self.assertEqual(blocks, as_lists(FOLDED))
        told[0] = 9
        self.assertEqual(corner_surface(blocks, 0), [1, 1, 0, 0, 0, 0, 0])
        blocks[0][0] = blocks[0][1] = None
        self.assertEqual(corner_surface(blocks, 0), [1, 0, 0, 0, 0, 0, 0])


class TestSumOf(Refusing):
    def test_by_hand(self):
        self.assertEqual(sum_of([1, 2, 3, 4, 5, 6, 7], [10, 20, 30, 40, 50, 60, 70]), [11, 22, 33, 44, 55, 66, 77])
        self.assertEqual(sum_of((0,) * 14, tuple(range(14))), list(range(14)))
        self.assertEqual(sum_of([LARGE * 9] * 7, [LARGE * 9 + 1] * 7), [LARGE * 18 + 1] * 7)
        # What does not fit, or not together, has a sum, too.
        self.assertEqual(sum_of(unit(4), unit(5)), [0, 0, 0, 0, 1, 1, 0])

    def test_number_by_number(self):
        rows = some_numbers(3, 40)
        for one, other in zip(rows, rows[1:]):
            told = sum_of(one, other)
            self.assertEqual(told, [one[at] + other[at] for at in range(21)])
            self.assertEqual(told, sum_of(other, one))
            self.assertIs(type(told), list)

    def test_told_lists_are_the_askers_own(self):
        one, other = [1] * 7, [2] * 7
        told = sum_of(one, other)
        one[0] = other[1] = 9
        self.assertEqual(told, [3] * 7)
        told[6] = 0
        self.assertEqual((one, other), ([9] + [1] * 6, [2, 9] + [2] * 5))
        self.assertEqual(sum_of(one, other), [11, 10, 3, 3, 3, 3, 3])
        self.assertEqual(sum_of(one, [0] * 7), one)
        self.assertIsNot(sum_of(one, [0] * 7), one)
        same = [4] * 7
        self.assertEqual((sum_of(same, same), same), ([8] * 7, [4] * 7))


class TestHandedIn(Refusing):
    def test_lists_and_tuples_alike_and_none_changed(self):
        blocks, one, other = as_lists(PAIR), sum_of(unit(4, 2), unit(5, 2, 1)), unit(3, 2)
        self.assertIs(fits(blocks, one), True)
        self.assertIs(is_surface(blocks, tuple(one)), True)
        self.assertIs(go_together(blocks, one, tuple(other)), True)
        self.assertEqual((blocks, one, other), (as_lists(PAIR), sum_of(unit(4, 2), unit(5, 2, 1)), unit(3, 2)))

    def test_the_same_lists_with_a_face_parted(self):
        blocks = as_lists(PAIR)
        self.assertIs(fits(blocks, unit(0, 2)), False)
        self.assertIs(go_together(blocks, unit(0, 2), unit(3, 2)), False)
        blocks[0][3] = blocks[1][3] = None
        self.assertIs(fits(blocks, unit(0, 2)), fits(parted(PAIR, 0, 3), unit(0, 2)))
        self.assertIs(is_surface(blocks, unit(0, 2)), True)
        self.assertIs(go_together(blocks, unit(0, 2), unit(3, 2)), True)

    def test_the_same_numbers_changed(self):
        numbers = [1, 1, 0, 0, 0, 0, 0]
        self.assertIs(fits(FOLDED, numbers), True)
        numbers[0] = 2
        self.assertIs(fits(FOLDED, numbers), False)
        numbers[1] = 2
        self.assertIs(is_surface(FOLDED, numbers), True)

    def test_of_spaces_beside_each_other(self):
        for one, other in product((FOLDED, DOUBLE, PAIR), (ALONE, TORUS)):
            both = beside(one, other)
            for corner in range(len(corners_of(one))):
                surface = corner_surface(one, corner) + [0] * (7 * len(other))
                self.assertEqual(corner_surface(both, corner), surface)
            for corner in range(len(corners_of(other))):
                surface = [0] * (7 * len(one)) + corner_surface(other, corner)
                self.assertEqual(corner_surface(both, len(corners_of(one)) + corner), surface)


if __name__ == "__main__":
    unittest.main()
