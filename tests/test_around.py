"""[10] What lies around corners, [11] their words, and what is sound, and [2], [3] of them."""

import unittest
from itertools import product

from blockrooms.around import around, corner_words, is_sound
from blockrooms.cells import corners_of, edges_of, turning
from blockrooms.errors import NoCorner
from blockrooms.spaces import beside, parted, space_of
from rooms_for_tests import (ALONE, ASLANT, BALL, BENT, BENT_WITHIN, BOTTLE, CHAIN, CLOSED, DOUBLE, FOLDED, ODD_THINGS,
                             PAIR, RING, SPACES, TORUS, TWISTED, as_lists, many_spaces, merged, merged_corners,
                             place, turn_is_odd)

# Around corner 0 of it lies a twisted ring with a second border; around that of the other one three borders.
TWISTED_TWICE = (((1, (3, 0, 2, 1)), None, None, (1, (1, 3, 0, 2))),
                 ((1, (1, 3, 2, 0)), (1, (3, 0, 2, 1)), (0, (2, 0, 3, 1)), (0, (1, 3, 2, 0))))
THRICE = ((None, None, (1, (0, 2, 1, 3)), (1, (3, 0, 1, 2))), ((1, (3, 2, 0, 1)), (0, (0, 2, 1, 3)),
                                                               (0, (1, 2, 3, 0)), (1, (2, 3, 1, 0))))


def walked_around(space, corner):
    """The same as around tells, by walking around points and along borders, and by both signs of each triangle."""
    triangles = merged_corners(space)[corner]
    corners = [(b, c, f, e) for b, c in triangles for f, e in product(range(4), range(4)) if len({c, f, e}) == 3]
    points = {frozenset(_around_point(space, at)) for at in corners}
    sides = merged([(b, c, f) for b, c, f, _ in corners], _across_sides(space, corners))
    free = [at for at in corners if space[at[0]][at[2]] is None]
    borders = {frozenset(_along_border(space, at)) for at in free}
    signs = merged(product(triangles, (1, -1)), _sign_pairs(space, triangles))
    turns = not any((triangle, 1) in row and (triangle, -1) in row for row in signs for triangle in triangles)
    # Each border is walked both ways.
    return (len(points) - len(sides) + len(triangles), len(borders) // 2, turns)


def _across(space, b, c, f, e):
    other, turn = space[b][f]
    return other, turn[c], turn[f], turn[e]


def _across_sides(space, corners):
    return [(at[:3], _across(space, *at)[:3]) for at in corners if space[at[0]][at[2]] is not None]


def _around_point(space, at):
    """The triangles' points that a walk through sides around a point meets, from a side of one on, both ways."""
    met = {at[:2] + at[3:]}
    for start in (at, at[:2] + (6 - sum(at[1:]), at[3])):
        b, c, f, e = start
        while space[b][f] is not None:
            b, c, f, e = _across(space, b, c, f, e)
            f = 6 - c - f - e
            if (b, c, f, e) == start:
                break
            met.add((b, c, e))
    return met


def _along_border(space, at):
    """The free sides, with the ends ahead, that a walk along the border meets."""
    met = set()
    while at not in met:
        met.add(at)
        b, c, f, e = at
        f = 6 - c - f - e
        while space[b][f] is not None:
            b, c, f, e = _across(space, b, c, f, e)
            f = 6 - c - f - e
        at = (b, c, f, 6 - c - f - e)
    return met


def _sign_pairs(space, triangles):
    for (b, c), f, sign in product(triangles, range(4), (1, -1)):
        if f != c and space[b][f] is not None:
            other, turn = space[b][f]
            yield ((b, c), sign), ((other, turn[c]), sign if turn_is_odd(turn) else -sign)


class TestAround(unittest.TestCase):
    def test_in_a_single_block(self):
        for corner in range(4):
            self.assertEqual(around(ALONE, corner), (1, 1, True))
        self.assertEqual([around(FOLDED, k) for k in range(3)], [(1, 1, True)] * 3)
        self.assertEqual(around(ASLANT, 0), (1, 1, True))

    def test_in_a_ball_and_in_a_space_without_border(self):
        self.assertEqual([around(BALL, k) for k in range(5)], [(2, 0, True)] + [(1, 1, True)] * 4)
        self.assertEqual([around(DOUBLE, k) for k in range(4)], [(2, 0, True)] * 4)

    def test_the_kinds_of_what_is_told(self):
        for space in (ALONE, BALL, BOTTLE):
            told = around(space, 0)
            self.assertEqual([type(part) for part in (told, *told)], [tuple, int, int, bool])

    def test_surroundings_without_a_border(self):
        self.assertEqual(around(TORUS, 0), (0, 0, True))
        self.assertEqual(around(BOTTLE, 0), (0, 0, False))
        self.assertEqual(around(CLOSED, 0), (-1, 0, False))

    def test_surroundings_with_one_border_and_with_several(self):
        self.assertEqual(around(TWISTED, 1), (0, 1, False))
        self.assertEqual(around(RING, 1), (0, 2, True))
        self.assertEqual(around(TWISTED_TWICE, 0), (-1, 2, False))
        self.assertEqual(around(THRICE, 0), (-1, 3, True))

    def test_what_turns_around_a_corner_in_a_space_that_does_not(self):
        self.assertIsNone(turning(TWISTED))
        self.assertEqual(around(TWISTED, 0), (1, 1, True))
        self.assertIsNone(turning(BENT_WITHIN))
        self.assertEqual(around(BENT_WITHIN, 0), (2, 0, True))

    def test_both_ends_of_an_edge_at_one_corner_are_two_points(self):
        # A ball of one block whose corners are all one; each of its edges has both ends there.
        self.assertEqual(len(corners_of(ASLANT)), 1)
        self.assertEqual(around(ASLANT, 0), (1, 1, True))

    def test_by_walking(self):
        seen = set()
        for space in many_spaces() + [TWISTED_TWICE, THRICE]:
            for corner in range(len(corners_of(space))):
                told = around(space, corner)
                self.assertEqual(told, walked_around(space, corner), (space, corner))
                seen.add(told)
        self.assertGreater(len(seen), 20)

    def test_all_corners_together(self):
        # Each edge has two ends, a bent one one; each side is one of a face's three.
        for space in many_spaces():
            edges, corners = edges_of(space), corners_of(space)
            bent = sum((b, end, start) in row for row in edges for b, start, end in row[:1])
            free = sum(faces.count(None) for faces in space)
            sides = 3 * (4 * len(space) + free) // 2
            self.assertEqual(sum(around(space, k)[0] for k in range(len(corners))),
                             2 * len(edges) - bent - sides + 4 * len(space))

    def test_what_surfaces_allow(self):
        for space in many_spaces():
            for corner in range(len(corners_of(space))):
                points, borders, turns = around(space, corner)
                self.assertLessEqual(points + borders, 2)
                self.assertFalse(turns and (points + borders) % 2 == 1)

    def test_no_corner(self):
        for space in SPACES + [BALL, BENT]:
            many = len(corners_of(space))
            for corner in ODD_THINGS + [-1, -many, many, many + 1, 10 ** 29, -10 ** 29, "1", [0], (0,), (0, 0)]:
                with self.assertRaises(NoCorner, msg=repr((space, corner))) as caught:
                    around(space, corner)
                self.assertIs(caught.exception.__class__, NoCorner)

    def test_lists_may_be_handed_in_and_are_not_changed(self):
        for space in SPACES + [RING, TORUS]:
            blocks = as_lists(space)
            for corner in range(len(corners_of(space))):
                self.assertEqual(around(blocks, corner), around(space, corner))
            with self.assertRaises(NoCorner):
                around(blocks, -1)
            self.assertEqual(blocks, as_lists(space))

    def test_the_same_lists_with_a_face_parted(self):
        blocks = as_lists(TWISTED)
        self.assertEqual(around(blocks, 1), (0, 1, False))
        blocks[0][0] = blocks[0][1] = None
        self.assertEqual(around(blocks, 1), (1, 1, True))
        self.assertEqual(around(blocks, 3), (1, 1, True))


class TestWords(unittest.TestCase):
    def test_by_hand(self):
        self.assertEqual(corner_words(ALONE), ["outer"] * 4)
        self.assertEqual(corner_words(BALL), ["inner", "outer", "outer", "outer", "outer"])
        self.assertEqual(corner_words(DOUBLE), ["inner"] * 4)
        self.assertEqual(corner_words(RING), ["outer", "odd", "outer"])
        self.assertEqual(corner_words(beside(TORUS, beside(BALL, TWISTED))),
                         ["odd", "inner", "outer", "outer", "outer", "outer", "outer", "odd"])

    def test_each_word_by_what_lies_around(self):
        words = {(2, 0, True): "inner", (1, 1, True): "outer"}
        for space in many_spaces():
            told = corner_words(space)
            self.assertIs(type(told), list)
            self.assertEqual(told, [words.get(walked_around(space, k), "odd") for k in range(len(told))])
            self.assertEqual(len(told), len(merged_corners(space)))

    def test_other_surroundings_are_odd(self):
        for space, corner in ((TORUS, 0), (BOTTLE, 0), (CLOSED, 0), (TWISTED, 1), (RING, 1), (TWISTED_TWICE, 0),
                              (THRICE, 0)):
            self.assertEqual(corner_words(space)[corner], "odd")
        # 1 as a disk has, but without a border, and it does not turn.
        ones = [space for space in many_spaces() if (1, 0, False) in [around(space, k)
                                                                      for k in range(len(corners_of(space)))]]
        self.assertGreater(len(ones), 5)
        for space in ones:
            self.assertIn("odd", corner_words(space))

    def test_told_lists_are_the_askers_own(self):
        blocks = as_lists(BALL)
        told = corner_words(blocks)
        self.assertEqual(blocks, as_lists(BALL))
        told[0] = "odd"
        told.append("more")
        self.assertEqual(corner_words(blocks), ["inner"] + ["outer"] * 4)
        blocks[0][1] = blocks[1][0] = None
        self.assertEqual(corner_words(blocks), corner_words(parted(BALL, 0, 1)))
        self.assertEqual(corner_words(blocks), ["outer"] * 5)


class TestSound(unittest.TestCase):
    def test_sound(self):
        for space in (ALONE, FOLDED, PAIR, DOUBLE, CHAIN, BALL, ASLANT, beside(BALL, DOUBLE)):
            self.assertIs(is_sound(space), True)

    def test_not_sound_for_an_odd_corner_alone(self):
        for space in (TORUS, BOTTLE, TWISTED, RING):
            for row in edges_of(space):
                self.assertNotIn((row[0][0], row[0][2], row[0][1]), row)
            self.assertIs(is_sound(space), False)
            self.assertIs(is_sound(beside(BALL, space)), False)

    def test_not_sound_for_a_bent_edge_alone(self):
        for space in (BENT, BENT_WITHIN):
            self.assertNotIn("odd", corner_words(space))
            self.assertIs(is_sound(space), False)
            self.assertIs(is_sound(beside(space, ALONE)), False)

    def test_by_words_and_edges(self):
        for space in many_spaces():
            bent = any((b, end, start) in row for row in edges_of(space) for b, start, end in row[-1:])
            self.assertIs(is_sound(space), "odd" not in corner_words(space) and not bent)

    def test_lists_may_be_handed_in_and_are_not_changed(self):
        blocks = as_lists(BENT)
        self.assertIs(is_sound(blocks), False)
        self.assertEqual(blocks, as_lists(BENT))
        blocks[0][2] = blocks[0][3] = None
        self.assertIs(is_sound(blocks), True)
        self.assertEqual(space_of(blocks), ALONE)


class TestPlaces(unittest.TestCase):
    def test_a_corner_is_told_by_its_place(self):
        self.assertEqual(place(RING, 1, 3), 1)
        self.assertEqual(around(RING, place(RING, 0, 1)), (0, 2, True))
        self.assertEqual(around(RING, place(RING, 1, 1)), (1, 1, True))


if __name__ == "__main__":
    unittest.main()
