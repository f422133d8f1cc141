"""[14] Least surfaces, surfaces as sums of them, and [2], [3] of these."""

import unittest
from itertools import combinations, product

from blockrooms.cells import corners_of
from blockrooms.errors import NoSurface
from blockrooms.least import as_sum, least_surfaces, sums_to
from blockrooms.numbers import corner_surface, is_surface, sum_of
from blockrooms.spaces import beside, parted
from rooms_for_tests import (ALONE, ASLANT, BENT, BENT_WITHIN, BOTTLE, CHAIN, CLOSED, DOUBLE, FOLDED, LONE, ODD_THINGS,
                             PAIR, RING, TORUS, as_lists, glueings, many_spaces)
from surfaces_for_tests import many_surfaces
from test_numbers import LARGE, NO_NUMBERS, Refusing, parts_off, unit

TWO = (LONE, LONE)
# A ring of one block: a face joined to the next one.
LAYERED = (((0, (1, 2, 3, 0)), (0, (3, 0, 1, 2)), None, None),)


def below(one, other):
    return all(first <= second for first, second in zip(one, other))


def small_surfaces(space, most):
    """All surfaces of numbers up to the most, not of noughts, by trying."""
    quads = [(q, 0, 0) for q in range(most + 1)] + [(0, q, 0) for q in range(1, most + 1)] + \
            [(0, 0, q) for q in range(1, most + 1)]
    blocks = [corners + many for corners in product(range(most + 1), repeat=4) for many in quads]
    told = [sum(choice, ()) for choice in product(blocks, repeat=len(space))]
    return [numbers for numbers in told if any(numbers) and is_surface(space, numbers)]


def tried_least(surfaces):
    return sorted(list(one) for one in surfaces
                  if not any(below(other, one) and other != one for other in surfaces))


def grown_least(space):
    """The least surfaces, by growing numbers one by one where they don't fit yet; None where that takes too long."""
    rows = sorted({tuple(sorted(pair)) for pair in glueings(space) if pair[0][2] != pair[0][1]})
    columns = [[_gap(place, here) - _gap(place, there) for here, there in rows] for place in range(7 * len(space))]
    found, level = [], {tuple(unit(place, len(space))): tuple(column) for place, column in enumerate(columns)}
    while level:
        found += [numbers for numbers, gaps in level.items() if not any(gaps)]
        more = {}
        for numbers, gaps in level.items():
            for place, column in enumerate(columns):
                if sum(a * b for a, b in zip(gaps, column)) < 0 and _may_grow(numbers, place):
                    grown = numbers[:place] + (numbers[place] + 1,) + numbers[place + 1:]
                    if grown not in more and not any(below(least, grown) for least in found):
                        more[grown] = tuple(a + b for a, b in zip(gaps, column))
        if len(more) > 600:
            return None
        level = more
    return sorted(map(list, found))


def _gap(place, spot):
    block, face, corner = spot
    return int(place // 7 == block and parts_off(place % 7, corner, face))


def _may_grow(numbers, place):
    first = place - place % 7
    return place % 7 < 4 or not any(numbers[at] for at in range(first + 4, first + 7) if at != place)


class TestLeastSurfaces(unittest.TestCase):
    def test_of_one_block(self):
        self.assertEqual(least_surfaces(ALONE), sorted(unit(sort) for sort in range(7)))
        self.assertEqual(least_surfaces(FOLDED), [[0, 0, 0, 0, 1, 0, 0], [0, 0, 0, 1, 0, 0, 0], [0, 0, 1, 0, 0, 0, 0],
                                                  [1, 1, 0, 0, 0, 0, 0]])
        self.assertEqual(least_surfaces(ASLANT), [[0, 0, 0, 0, 1, 0, 0], [0, 1, 1, 0, 0, 0, 1], [1, 0, 0, 1, 0, 1, 0],
                                                  [1, 1, 1, 1, 0, 0, 0]])
        self.assertEqual(least_surfaces(LAYERED), [[0, 0, 0, 0, 0, 1, 0], [0, 0, 1, 1, 1, 0, 0], [1, 1, 0, 0, 0, 0, 1],
                                                   [1, 1, 1, 1, 0, 0, 0]])
        for space in (CLOSED, BOTTLE):
            self.assertEqual(least_surfaces(space), [[1, 1, 1, 1, 0, 0, 0]])

    def test_of_two_blocks(self):
        self.assertEqual(least_surfaces(TWO), sorted(unit(place, 2) for place in range(14)))
        self.assertEqual(least_surfaces(TORUS), [[1, 1, 1, 1, 0, 0, 0] * 2])
        self.assertEqual(least_surfaces(DOUBLE), [
            [0, 0, 0, 0, 0, 0, 1, 0, 0, 0, 0, 0, 0, 1], [0, 0, 0, 0, 0, 1, 0, 0, 0, 0, 0, 0, 1, 0],
            [0, 0, 0, 0, 1, 0, 0, 0, 0, 0, 0, 1, 0, 0], [0, 0, 0, 1, 0, 0, 0, 0, 0, 0, 1, 0, 0, 0],
            [0, 0, 1, 0, 0, 0, 0, 0, 0, 1, 0, 0, 0, 0], [0, 1, 0, 0, 0, 0, 0, 0, 1, 0, 0, 0, 0, 0],
            [1, 0, 0, 0, 0, 0, 0, 1, 0, 0, 0, 0, 0, 0]])
        # At the face of two blocks each triangle or quad of the one meets a triangle or a quad of the other.
        self.assertEqual(len(least_surfaces(PAIR)), 2 + 3 * 4)

    def test_of_three_blocks(self):
        self.assertEqual(least_surfaces((LONE,) * 3), sorted(unit(place, 3) for place in range(21)))
        told = least_surfaces(CHAIN)
        self.assertEqual(told[1], [0, 0, 0, 0, 0, 0, 2, 0, 0, 0, 0, 2, 0, 0, 0, 1, 1, 0, 0, 0, 1])
        self.assertEqual(told, grown_least(CHAIN))

    def test_quads_many_times_over(self):
        most = {}
        for space in many_spaces():
            if len(space) <= 3:
                most[len(space)] = max([most.get(len(space), 0)] + [max(numbers[at:at + 3]) for numbers in
                                       least_surfaces(space) for at in range(4, 7 * len(space), 7)])
        self.assertGreaterEqual(most[2], 2)
        self.assertGreaterEqual(most[3], 3)

    def test_the_kinds_of_what_is_told(self):
        for space in (ALONE, CHAIN, BENT_WITHIN):
            told = least_surfaces(space)
            self.assertIs(type(told), list)
            self.assertTrue(all(type(numbers) is list and len(numbers) == 7 * len(space) for numbers in told))
            self.assertTrue(all(type(number) is int for numbers in told for number in numbers))

    def test_those_of_one_block_by_trying_all_small_surfaces(self):
        for space in [space for space in many_spaces() if len(space) == 1]:
            tried = tried_least(small_surfaces(space, 2))
            self.assertEqual([numbers for numbers in least_surfaces(space) if max(numbers) <= 2], tried)

    def test_those_of_two_blocks_by_trying_all_small_surfaces(self):
        for space in [space for space in many_spaces() if len(space) == 2][::5] + [RING, PAIR]:
            tried = tried_least(small_surfaces(space, 1))
            self.assertEqual([numbers for numbers in least_surfaces(space) if max(numbers) <= 1], tried)

    def test_by_growing(self):
        compared = {1: 0, 2: 0, 3: 0}
        for space in [space for space in many_spaces() if len(space) <= 3]:
            grown = grown_least(space)
            if grown is not None:
                self.assertEqual(least_surfaces(space), grown, space)
                compared[len(space)] += 1
        self.assertGreater(min(compared.values()), 40)

    def test_surfaces_sorted_none_within_another_one(self):
        for space in [space for space in many_spaces() if len(space) <= 3]:
            told = least_surfaces(space)
            self.assertEqual(told, sorted(told))
            self.assertTrue(all(is_surface(space, numbers) and any(numbers) for numbers in told))
            # What is a sum of two has them within, and what is left of a surface without one within is a surface.
            for one, other in combinations(told, 2):
                self.assertFalse(below(one, other) or below(other, one))

    def test_corners_surfaces(self):
        for space in [space for space in many_spaces() if len(space) <= 3]:
            told = least_surfaces(space)
            for corner in range(len(corners_of(space))):
                self.assertEqual(told.count(corner_surface(space, corner)), 1)

    def test_of_spaces_beside_each_other(self):
        for one, other in product((ALONE, FOLDED, RING, DOUBLE, BENT), (ALONE, ASLANT, CLOSED)):
            zeros = [[0] * (7 * len(space)) for space in (one, other)]
            self.assertEqual(least_surfaces(beside(one, other)),
                             sorted([numbers + zeros[1] for numbers in least_surfaces(one)] +
                                    [zeros[0] + numbers for numbers in least_surfaces(other)]))


class TestAsSum(Refusing):
    def test_by_hand(self):
        self.assertEqual(as_sum(FOLDED, [3, 3, 0, 2, 5, 0, 0]), [(5, [0, 0, 0, 0, 1, 0, 0]), (2, [0, 0, 0, 1, 0, 0, 0]),
                                                                  (3, [1, 1, 0, 0, 0, 0, 0])])
        self.assertEqual(as_sum(CLOSED, (4, 4, 4, 4, 0, 0, 0)), [(4, [1, 1, 1, 1, 0, 0, 0])])

    def test_noughts(self):
        for space in (ALONE, PAIR, CHAIN, TORUS):
            self.assertEqual(as_sum(space, [0] * (7 * len(space))), [])

    def test_a_least_one(self):
        for space in [space for space in many_spaces() if len(space) <= 3]:
            for numbers in least_surfaces(space):
                self.assertEqual(as_sum(space, numbers), [(1, numbers)])

    def test_where_several_sums_are_there_the_first_is_told(self):
        # Twice the second of three is the first and the third, too.
        first = [0, 0, 0, 0, 0, 0, 2, 0, 0, 0, 0, 2, 0, 0, 0, 1, 1, 0, 0, 0, 1]
        second = [0, 0, 0, 1, 0, 0, 1, 0, 0, 0, 0, 2, 0, 0, 0, 1, 1, 0, 0, 0, 1]
        third = [0, 0, 0, 2, 0, 0, 0, 0, 0, 0, 0, 2, 0, 0, 0, 1, 1, 0, 0, 0, 1]
        self.assertEqual(sum_of(first, third), sum_of(second, second))
        self.assertEqual(as_sum(CHAIN, sum_of(second, second)), [(1, first), (1, third)])
        self.assertIs(sums_to(CHAIN, sum_of(second, second), [(2, second)]), True)

    def test_numbers_of_thirty_figures(self):
        many = [9 * LARGE + at for at in range(4)]
        self.assertEqual(as_sum(FOLDED, [many[0], many[0], many[1], many[2], many[3], 0, 0]),
                         [(many[3], unit(4)), (many[2], unit(3)), (many[1], unit(2)),
                          (many[0], [1, 1, 0, 0, 0, 0, 0])])
        # What is told is of more figures still, and may be handed in.
        told = sum_of([9 * LARGE] * 4 + [0] * 3, [9 * LARGE + 1] * 4 + [0] * 3)
        self.assertEqual(as_sum(CLOSED, told), [(18 * LARGE + 1, [1, 1, 1, 1, 0, 0, 0])])

    def test_from_the_first_on_each_as_often_as_it_goes(self):
        for space, numbers in many_surfaces():
            left = list(numbers)
            for many, least in as_sum(space, numbers):
                left = [one - many * other for one, other in zip(left, least)]
                self.assertFalse(min(left) < 0 or below(least, left))
            self.assertEqual(left, [0] * len(numbers))
            told = [least for _, least in as_sum(space, numbers)]
            self.assertEqual(told, [least for least in least_surfaces(space) if least in told])
            if told:
                self.assertEqual(told[0], [least for least in least_surfaces(space) if below(least, numbers)][0])

    def test_the_kinds_of_what_is_told(self):
        told = as_sum(FOLDED, (1, 1, 2, 0, 0, 0, 0))
        self.assertIs(type(told), list)
        for share in told:
            self.assertEqual([type(part) for part in (share, *share)], [tuple, int, list])

    def test_no_surface(self):
        for numbers in NO_NUMBERS + [[0] * 14, unit(0), unit(5), [0, 0, 0, 0, 0, 1, 1]]:
            self.refused(NoSurface, as_sum, FOLDED, numbers)
        self.refused(NoSurface, as_sum, ALONE, [0, 0, 0, 0, 1, 1, 0])
        self.refused(NoSurface, as_sum, TWO, [0] * 7)
        self.refused(NoSurface, as_sum, PAIR, unit(0, 2))


class TestSumsTo(unittest.TestCase):
    NUMBERS = [3, 3, 0, 2, 5, 0, 0]
    SUM = [(5, [0, 0, 0, 0, 1, 0, 0]), (2, [0, 0, 0, 1, 0, 0, 0]), (3, [1, 1, 0, 0, 0, 0, 0])]

    def test_what_is_told_sums(self):
        for space, numbers in many_surfaces()[::3]:
            self.assertIs(sums_to(space, numbers, as_sum(space, numbers)), True)
        self.assertIs(sums_to(FOLDED, [0] * 7, []), True)

    def test_in_any_order_and_of_lists_and_tuples(self):
        for at in range(3):
            self.assertIs(sums_to(FOLDED, self.NUMBERS, self.SUM[at:] + self.SUM[:at]), True)
        self.assertIs(sums_to(FOLDED, tuple(self.NUMBERS), self.SUM[::-1]), True)
        self.assertIs(sums_to(FOLDED, self.NUMBERS, tuple([many, tuple(least)] for many, least in self.SUM)), True)

    def test_another_sum_than_the_told_one(self):
        others = 0
        for pair in combinations(least_surfaces(CHAIN), 2):
            total, paper = sum_of(*pair), [(1, numbers) for numbers in pair]
            if is_surface(CHAIN, total):
                self.assertIs(sums_to(CHAIN, total, paper), True)
                others += as_sum(CHAIN, total) != paper
        self.assertGreater(others, 0)

    def test_one_more_or_less_or_left_out(self):
        for at, (many, least) in enumerate(self.SUM):
            for other in (many - 1, many + 1, 10 * LARGE):
                paper = self.SUM[:at] + [(other, least)] + self.SUM[at + 1:]
                self.assertIs(sums_to(FOLDED, self.NUMBERS, paper), False)
            self.assertIs(sums_to(FOLDED, self.NUMBERS, self.SUM[:at] + self.SUM[at + 1:]), False)
        self.assertIs(sums_to(FOLDED, self.NUMBERS, self.SUM + [(1, unit(2))]), False)
        self.assertIs(sums_to(FOLDED, self.NUMBERS, []), False)
        self.assertIs(sums_to(FOLDED, [0] * 7, self.SUM), False)
        self.assertIs(sums_to(FOLDED, [3, 3, 0, 2, 4, 0, 0], self.SUM), False)

    def test_a_list_that_is_no_least_surface(self):
        # Each of these sums to the numbers.
        self.assertIs(sums_to(FOLDED, self.NUMBERS, [(1, self.NUMBERS)]), False)
        self.assertIs(sums_to(FOLDED, [2, 2, 0, 0, 0, 0, 0], [(1, [2, 2, 0, 0, 0, 0, 0])]), False)
        self.assertIs(sums_to(FOLDED, [1, 1, 0, 0, 0, 0, 0], [(1, unit(0)), (1, unit(1))]), False)
        self.assertIs(sums_to(FOLDED, self.NUMBERS, self.SUM + [(1, [0] * 7)]), False)
        self.assertIs(sums_to(FOLDED, [0] * 7, [(1, [0] * 7)]), False)

    def test_how_many_below_one(self):
        self.assertIs(sums_to(FOLDED, self.NUMBERS, self.SUM + [(0, unit(2))]), False)
        self.assertIs(sums_to(FOLDED, [0] * 7, [(0, unit(2))]), False)
        self.assertIs(sums_to(ALONE, unit(0), [(1, unit(0)), (-1, unit(1))]), False)

    def test_numbers_that_are_no_surface(self):
        for numbers in NO_NUMBERS + [[0] * 14, unit(0), [0, 0, 0, 0, 0, 1, 1]]:
            for paper in ([], self.SUM, None):
                self.assertIs(sums_to(FOLDED, numbers, paper), False)
        # These sum to the numbers, two sorts of quads in one block.
        self.assertIs(sums_to(ALONE, [0, 0, 0, 0, 1, 1, 0], [(1, unit(4)), (1, unit(5))]), False)

    def test_other_lists(self):
        papers = ODD_THINGS + [[[]], [()], [None], [1], "1", [(1,)], [(1, unit(0), 0)], [(True, unit(0))],
                               [("1", unit(0))], [(1.0, unit(0))], [(1, "1000000")], [(1, None)], [(1, unit(0)[:6])],
                               [(1, [True] + [0] * 6)], [(1, [1.0] + [0] * 6)], [(unit(0), 1)], [(1, [[1]] + [0] * 6)],
                               [(1, unit(0, 2))], [unit(0)], unit(0), (1, unit(0))]
        for paper in papers:
            self.assertIs(sums_to(ALONE, unit(0), paper), False, paper)
        self.assertIs(sums_to(ALONE, unit(0), [(1, unit(0))]), True)

    def test_numbers_of_thirty_figures(self):
        many = 10 * LARGE - 1
        self.assertIs(sums_to(CLOSED, [many] * 4 + [0] * 3, [(many, [1, 1, 1, 1, 0, 0, 0])]), True)
        self.assertIs(sums_to(CLOSED, [many] * 4 + [0] * 3, [(many - 1, [1, 1, 1, 1, 0, 0, 0])]), False)


class TestHandedInAndTold(unittest.TestCase):
    def test_what_is_handed_in_is_not_changed(self):
        for space, numbers in many_surfaces()[::40]:
            blocks, handed, paper = as_lists(space), list(numbers), as_lists(as_sum(space, numbers))
            kept = as_lists(paper)
            self.assertEqual(least_surfaces(blocks), least_surfaces(space))
            self.assertEqual(as_sum(blocks, handed), as_sum(space, tuple(numbers)))
            self.assertIs(sums_to(blocks, handed, paper), True)
            self.assertEqual((blocks, handed, paper), (as_lists(space), list(numbers), kept))

    def test_told_lists_are_the_askers_own(self):
        for space in (ALONE, FOLDED, CHAIN):
            told, again = least_surfaces(space), least_surfaces(space)
            self.assertEqual(told, again)
            told[0][0] = 9
            told[-1].append(1)
            told.pop(1)
            self.assertEqual(least_surfaces(space), again)
        numbers = [3, 3, 0, 2, 5, 0, 0]
        told, again = as_sum(FOLDED, numbers), as_sum(FOLDED, numbers)
        told[0][1][0] = 9
        told.clear()
        self.assertEqual(as_sum(FOLDED, numbers), again)
        self.assertEqual(least_surfaces(FOLDED)[0], [0, 0, 0, 0, 1, 0, 0])
        numbers[4] = 0
        self.assertEqual(again[0], (5, [0, 0, 0, 0, 1, 0, 0]))

    def test_a_told_sum_of_a_least_surface_is_not_the_list_handed_in(self):
        numbers = unit(4)
        told = as_sum(FOLDED, numbers)
        told[0][1][4] = 5
        self.assertEqual(numbers, unit(4))

    def test_the_same_lists_with_a_face_parted_or_another_number(self):
        for space, block, face in ((LAYERED, 0, 0), (PAIR, 1, 3), (CHAIN, 2, 0)):
            blocks = as_lists(space)
            before = least_surfaces(blocks)
            other, turn = blocks[block][face]
            blocks[block][face] = blocks[other][turn[face]] = None
            self.assertEqual(least_surfaces(blocks), least_surfaces(parted(space, block, face)))
            self.assertNotEqual(least_surfaces(blocks), before)
        numbers = [1, 1, 0, 0, 0, 0, 0]
        self.assertEqual(as_sum(FOLDED, numbers), [(1, [1, 1, 0, 0, 0, 0, 0])])
        numbers[3] = 2
        self.assertEqual(as_sum(FOLDED, numbers), [(2, unit(3)), (1, [1, 1, 0, 0, 0, 0, 0])])
        self.assertIs(sums_to(FOLDED, numbers, [(1, [1, 1, 0, 0, 0, 0, 0])]), False)


if __name__ == "__main__":
    unittest.main()
