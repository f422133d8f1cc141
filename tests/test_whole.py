"""[4] What holds of renamed spaces, of those joined and parted again, and of two beside each other."""

import unittest
from itertools import permutations

from blockrooms.around import around, corner_words, is_sound
from blockrooms.cells import border, corners_of, counted, edges_of, faces_of, parts_of, turning
from blockrooms.numbers import arcs, corner_surface, fits, go_together, is_surface
from blockrooms.spaces import beside, joined, parted, renamed
from rooms_for_tests import (BALL, BENT, BOTTLE, CHAIN, CLOSED, DOUBLE, FOLDED, MORE_SPACES, PAIR, RING, SPACES, TORUS,
                             TURNS, TWISTED, many_spaces, turn_is_odd)
from surfaces_for_tests import numbers_renamed


def some_names(many):
    """A few orders and turns by which a space of so many blocks is renamed."""
    orders = list(permutations(range(many)))
    for shift in range(24):
        yield list(orders[5 * shift % len(orders)]), [TURNS[(shift + 7 * k) % 24] for k in range(many)]


def all_told(space):
    """All that is told of a space."""
    return (corners_of(space), edges_of(space), faces_of(space), counted(space), border(space), parts_of(space),
            turning(space), corner_words(space), is_sound(space),
            [around(space, k) for k in range(len(corners_of(space)))],
            [corner_surface(space, k) for k in range(len(corners_of(space)))])


class TestRenamed(unittest.TestCase):
    def test_what_is_told_is_the_same_renamed(self):
        for space in SPACES + MORE_SPACES:
            for order, turns in some_names(len(space)):
                self.held(space, order, turns)

    def test_of_many_spaces(self):
        for at, space in enumerate(many_spaces()):
            self.held(space, *list(some_names(len(space)))[at % 24])

    def held(self, space, order, turns):
        told = renamed(space, order, turns)

        def named(cell):
            new = order.index(cell[0])
            return (new, *[turns[new][part] for part in cell[1:]])

        def named_rows(rows):
            return sorted(sorted(map(named, row)) for row in rows)

        self.assertEqual(counted(told), counted(space))
        self.assertEqual(corners_of(told), named_rows(corners_of(space)))
        self.assertEqual(faces_of(told), named_rows(faces_of(space)))
        self.assertEqual(border(told), sorted(map(named, border(space))))
        self.assertEqual(parts_of(told), sorted(sorted(map(order.index, part)) for part in parts_of(space)))
        self.edges_held(edges_of(told), named_rows(edges_of(space)))
        self.turning_held(turning(space), turning(told), parts_of(told), order, turns)
        places = [corners_of(told).index(sorted(map(named, row))) for row in corners_of(space)]
        self.assertEqual([around(told, k) for k in places], [around(space, k) for k in range(len(places))])
        self.assertEqual([corner_words(told)[k] for k in places], corner_words(space))
        self.assertEqual(is_sound(told), is_sound(space))

    def edges_held(self, told, rows):
        """The same edges, each of them perhaps in the contrary direction."""
        contrary = [sorted((block, end, start) for block, start, end in row) for row in rows]
        self.assertEqual(len(told), len(rows))
        for row, other in zip(rows, contrary):
            self.assertEqual((row in told) + (other in told), 2 if row == other else 1)

    def turning_held(self, before, after, parts, order, turns):
        """None for both, or the signs before, contrary where a block is turned oddly, and perhaps in whole parts."""
        self.assertEqual(before is None, after is None)
        for part in parts if after is not None else []:
            self.assertEqual(after[part[0]], 1)
            signs = [before[order[k]] * (-1 if turn_is_odd(turns[k]) else 1) for k in part]
            self.assertIn([after[k] for k in part], [signs, [-sign for sign in signs]])

    def test_surfaces_renamed_alike(self):
        for space, numbers in ((FOLDED, [1, 1, 0, 2, 3, 0, 0]), (FOLDED, [1, 0, 0, 0, 0, 0, 0]),
                               (FOLDED, [0, 0, 0, 0, 0, 1, 1]), (PAIR, [0, 0, 0, 0, 1, 0, 0, 0, 0, 0, 2, 0, 1, 0]),
                               (TORUS, [1, 1, 1, 1, 0, 0, 0] * 2)):
            for order, turns in some_names(len(space)):
                self.surface_held(space, numbers, order, turns)

    def surface_held(self, space, numbers, order, turns):
        told, other = renamed(space, order, turns), numbers_renamed(numbers, order, turns)
        for place, (block, turn) in enumerate(zip(order, turns)):
            for face in range(4):
                for corner in {0, 1, 2, 3} - {face}:
                    self.assertEqual(arcs(other, place, turn[face], corner=turn[corner]),
                                     arcs(numbers, block, face, corner=corner))
        self.assertEqual(fits(told, other), fits(space, numbers))
        self.assertEqual(is_surface(told, other), is_surface(space, numbers))
        self.assertEqual(go_together(told, other, other), go_together(space, numbers, numbers))


class TestJoinedAndParted(unittest.TestCase):
    def test_joined_and_parted_again_all_is_as_it_was(self):
        for space in (FOLDED, PAIR, CHAIN, BALL, RING):
            before = all_told(space)
            free = border(space)
            for block, face in free:
                for other, across in free:
                    if (other, across) != (block, face):
                        turn = [turn for turn in TURNS if turn[face] == across][(block + face + across) % 6]
                        told = joined(space, block, face, other=other, turn=turn)
                        self.assertNotEqual(all_told(told), before)
                        self.assertEqual(all_told(parted(told, other, across)), before)

    def test_parted_and_joined_again_all_is_as_it_was(self):
        for space in SPACES + MORE_SPACES:
            before = all_told(space)
            for block, faces in enumerate(space):
                for face in range(4):
                    if faces[face] is not None:
                        apart = parted(space, block, face)
                        self.assertEqual(len(border(apart)), len(border(space)) + 2)
                        self.assertEqual(counted(apart)[2], counted(space)[2] + 1)
                        other, turn = faces[face]
                        self.assertEqual(all_told(joined(apart, block, face, other=other, turn=turn)), before)


class TestBeside(unittest.TestCase):
    def test_those_of_the_one_then_those_of_the_other(self):
        spaces = SPACES + MORE_SPACES
        for one in spaces:
            for other in spaces:
                self.held(one, other)

    def held(self, one, other):
        both, many = beside(one, other), len(one)

        def behind(cells):
            return [(cell[0] + many, *cell[1:]) for cell in cells]

        for function in (corners_of, edges_of, faces_of):
            self.assertEqual(function(both), function(one) + [behind(row) for row in function(other)])
        self.assertEqual(border(both), border(one) + behind(border(other)))
        self.assertEqual(parts_of(both), parts_of(one) + [[k + many for k in part] for part in parts_of(other)])
        self.assertEqual(counted(both), tuple(map(sum, zip(counted(one), counted(other)))))
        lists = [turning(one), turning(other)]
        self.assertEqual(turning(both), None if None in lists else lists[0] + lists[1])
        self.assertEqual(corner_words(both), corner_words(one) + corner_words(other))
        self.assertIs(is_sound(both), is_sound(one) and is_sound(other))
        self.assertEqual([around(both, len(corners_of(one)) + k) for k in range(len(corners_of(other)))],
                         [around(other, k) for k in range(len(corners_of(other)))])

    def test_more_than_twelve_blocks(self):
        space = beside(beside(BALL, beside(TORUS, DOUBLE)), beside(BENT, beside(BALL, CHAIN)))
        self.assertEqual(counted(space)[3], 16)
        self.assertEqual(len(parts_of(space)), 6)
        self.assertEqual(turning(space), None)
        self.assertEqual(corner_words(space).count("odd"), 1)
        self.assertIs(is_sound(space), False)

    def test_the_same_again(self):
        for space in (CLOSED, BOTTLE, TWISTED, BALL):
            self.assertEqual(all_told(space), all_told(space))


if __name__ == "__main__":
    unittest.main()
