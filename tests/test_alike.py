"""[22] Spaces that are alike, papers that show it, least names, and [2] of them."""

import unittest
from itertools import permutations, product

from blockrooms.alike import alike, least_name, shows_alike
from blockrooms.moves import moved, moves_of
from blockrooms.spaces import beside, joined, parted, renamed, space_of
from rooms_for_tests import (ALONE, ASLANT, BALL, BENT, BENT_WITHIN, BOTTLE, CHAIN, CLOSED, DOUBLE, FOLDED, LONE,
                             MORE_SPACES, ODD_THINGS, PAIR, RING, SAME, SPACES, TORUS, TURNS, TWISTED, all_tuples,
                             as_lists, many_spaces)
from moves_for_tests import closed_ball_pair, reached_spaces, walked
from test_whole import some_names

MIRROR = (1, 0, 2, 3)


def key(space):
    """A space as it is held against others: None as (-1,)."""
    return tuple(tuple((-1,) if joining is None else joining for joining in block) for block in space)


def all_renamings(space):
    many = len(space)
    for order in permutations(range(many)):
        for turns in product(TURNS, repeat=many):
            yield order, turns, renamed(space, order, turns)


def all_matches(one, other):
    """All orders and turns by which the one is the other, by trying block after block."""
    many, told = len(one), []

    def more(order, turns):
        place = len(order)
        if place == many:
            if renamed(one, order, turns) == other:
                told.append((tuple(order), tuple(turns)))
            return
        for block, turn in product(range(many), TURNS):
            if block not in order and _fits(one, other, order + [block], turns + [turn]):
                more(order + [block], turns + [turn])
    if many == len(other):
        more([], [])
    return told


def _fits(one, other, order, turns):
    """Whether the last block's joinings to those that are named already, and its free faces, are as they should be."""
    place = len(order) - 1
    for face, joining in enumerate(one[order[place]]):
        there = other[place][turns[place][face]]
        if (joining is None) != (there is None):
            return False
        if joining is not None and joining[0] in order:
            new = order.index(joining[0])
            back = [turns[place].index(c) for c in range(4)]
            if there != (new, tuple(turns[new][joining[1][c]] for c in back)):
                return False
        elif joining is not None and there[0] < len(order):
            return False
    return True


class TestAlike(unittest.TestCase):
    def test_by_hand(self):
        self.assertEqual(alike(ALONE, ALONE), ([0], [SAME]))
        self.assertEqual(alike(PAIR, PAIR), ([0, 1], [SAME, SAME]))
        self.assertEqual(alike(FOLDED, FOLDED), ([0], [SAME]))
        self.assertEqual(alike(DOUBLE, DOUBLE), ([0, 1], [SAME, SAME]))
        # Faces 0 and 1 are joined, by 0 to 1 and 1 to 0; then faces 2 and 3.
        other = (((None, None, (0, (0, 1, 3, 2)), (0, (0, 1, 3, 2)))),)
        self.assertEqual(alike(FOLDED, other), ([0], [(2, 3, 0, 1)]))

    def test_none(self):
        for one, other in ((ALONE, FOLDED), (ALONE, (LONE, LONE)), (PAIR, (LONE, LONE)), (CLOSED, BOTTLE),
                           (FOLDED, BENT), (FOLDED, TWISTED), (DOUBLE, TORUS), (PAIR, RING), (BALL, closed_ball_pair()),
                           (beside(PAIR, PAIR), beside(CHAIN, ALONE)), (FOLDED, ASLANT)):
            self.assertIsNone(alike(one, other))
            self.assertIsNone(alike(other, one))

    def test_none_where_a_part_lies_over_another_one_twice(self):
        # Each block of a ring of two is as the one of a ring of one, and so are its neighbours.
        one = (((None, None, (0, (0, 1, 3, 2)), (0, (0, 1, 3, 2)))),)
        two = tuple((None, None, (1 - b, (0, 1, 3, 2)), (1 - b, (0, 1, 3, 2))) for b in range(2))
        self.assertIsNone(alike(beside(one, one), two))
        self.assertIsNone(alike(two, beside(one, one)))
        self.assertIsNone(alike(beside(two, beside(one, one)), beside(two, two)))

    def test_the_first_of_all_by_trying(self):
        spaces = SPACES + MORE_SPACES + [space for space in many_spaces() if len(space) <= 3][::9]
        for at, space in enumerate(spaces):
            order, turns = list(some_names(len(space)))[at % 24]
            other = renamed(space, order, turns)
            told = alike(space, other)
            self.assertEqual((tuple(told[0]), tuple(told[1])), min(all_matches(space, other)), (space, other))
            self.assertEqual(renamed(space, *told), other)

    def test_the_first_of_all_of_spaces_of_several_parts(self):
        spaces = [(LONE, LONE), beside(FOLDED, beside(FOLDED, FOLDED)), beside(PAIR, PAIR), beside(FOLDED, beside(PAIR,
                  FOLDED)), beside(BENT, beside(RING, BENT)), beside(beside(ASLANT, TWISTED), beside(ASLANT, TWISTED)),
                  beside(DOUBLE, DOUBLE), beside(CLOSED, beside(BOTTLE, CLOSED))]
        for at, space in enumerate(spaces):
            for step in (at, at + 7):
                order, turns = list(some_names(len(space)))[(5 * step + 3) % 24]
                other = renamed(space, order, turns)
                told = alike(space, other)
                self.assertEqual((tuple(told[0]), tuple(told[1])), min(all_matches(space, other)))

    def test_parts_that_stand_among_each_other(self):
        space = joined(joined((LONE,) * 5, 4, 0, other=0, turn=SAME), 3, 1, other=1, turn=SAME)
        for order, turns in list(some_names(5))[::5]:
            other = renamed(space, order, turns)
            told = alike(space, other)
            self.assertEqual(renamed(space, *told), other)
            # Of those parts that could be there the one with the least block goes first.
            matches = []
            for first in (0, 1, 3, 4):
                matches += [first] if self.goes(space, other, first) else []
            at = [k for k in range(5) if other[k] != LONE][0]
            self.assertEqual(told[0][at], min(matches))

    def goes(self, space, other, block):
        """Whether a block can be the other one's first joined one: here all joined ones can."""
        return space[block] != LONE and sum(row != LONE for row in other) == 4

    def test_those_of_many_spaces_renamed(self):
        for at, space in enumerate(many_spaces() + reached_spaces()):
            order, turns = some_names_of(len(space), at)
            other = renamed(space, order, turns)
            told = alike(space, other)
            self.assertEqual([type(part) for part in (told, *told)], [tuple, list, list])
            self.assertTrue(all(type(turn) is tuple for turn in told[1]))
            self.assertEqual(renamed(space, *told), other)
            self.assertIs(shows_alike(space, other, told), True)
            self.assertLessEqual((told[0], told[1]), (list(order), list(turns)))

    def test_just_where_the_least_names_are_the_same(self):
        spaces = [space for space in many_spaces() if len(space) == 2] + [renamed(TORUS, [1, 0], [MIRROR, SAME])]
        for one, other in product(spaces[::5], spaces[::3]):
            self.assertEqual(alike(one, other) is not None, least_name(one) == least_name(other))

    def test_twelve_blocks_and_more(self):
        space = beside(BALL, beside(BALL, BALL))
        order = [(5 * k + 3) % 12 for k in range(12)]
        other = renamed(space, order, [TURNS[7 * k % 24] for k in range(12)])
        self.assertEqual(renamed(space, *alike(space, other)), other)
        space = walked(closed_ball_pair(), 3, 12, 17)
        other = renamed(space, list(range(len(space)))[::-1], [MIRROR] * len(space))
        self.assertGreater(len(space), 12)
        self.assertEqual(renamed(space, *alike(space, other)), other)
        self.assertIsNone(alike(space, beside((LONE,) * (len(space) - 4), BALL)))


def some_names_of(many, seed):
    order = sorted(range(many), key=lambda k: (7 * k + seed) * 31 % 17)
    return order, [TURNS[(5 * seed + 3 * k) % 24] for k in range(many)]


class TestShowsAlike(unittest.TestCase):
    def test_true(self):
        for space in SPACES + MORE_SPACES:
            for order, turns in some_names(len(space)):
                other = renamed(space, order, turns)
                self.assertIs(shows_alike(space, other, (order, turns)), True)
                self.assertIs(shows_alike(space, other, [tuple(order), [list(turn) for turn in turns]]), True)

    def test_any_of_those_that_show_it(self):
        for turn in TURNS:
            self.assertIs(shows_alike(ALONE, ALONE, ([0], [turn])), True)
        for order, turns in all_matches(DOUBLE, DOUBLE):
            self.assertIs(shows_alike(DOUBLE, DOUBLE, (list(order), list(turns))), True)

    def test_false(self):
        for space in SPACES + MORE_SPACES:
            names = (list(range(len(space))), [SAME] * len(space))
            self.assertIs(shows_alike(space, beside(space, ALONE), names), False)
            matches = all_matches(space, space)
            for order, turns in some_names(len(space)):
                self.assertIs(shows_alike(space, space, (order, turns)), (tuple(order), tuple(turns)) in matches)

    def test_of_lists_of_anything(self):
        for thing in ODD_THINGS + [[], (), [0, 1], [0, 0], [1], [-1], [True], [0.0], [[0]], [None], 10 ** 29,
                                   [10 ** 29]]:
            self.assertIs(shows_alike(ALONE, ALONE, (thing, [SAME])), False)
        for thing in ODD_THINGS + [[], (), [SAME, SAME], SAME, [0], [None], [()], [[0, 1, 2]], [[0, 1, 2, 2]],
                                   [(0, 1, 2, 4)], [[0, 1, 2, True]], ["0123"], [[0, 1, 2, 3, 4]],
                                   [[0, 1, 2, [3]]], [{0, 1, 2, 3}]]:
            self.assertIs(shows_alike(ALONE, ALONE, ([0], thing)), False)

    def test_of_anything_else(self):
        for paper in ODD_THINGS + [[], (), ([0],), ([0], [SAME], 0), [0], [[0]], "ab", ("0", "0123"), 10 ** 29]:
            self.assertIs(shows_alike(ALONE, ALONE, paper), False)


class TestLeastName(unittest.TestCase):
    def test_by_hand(self):
        self.assertEqual(least_name(ALONE), ALONE)
        self.assertEqual(least_name(FOLDED), (((None, None, (0, (0, 1, 3, 2)), (0, (0, 1, 3, 2)))),))
        self.assertEqual(least_name(PAIR), ((None, None, None, (1, SAME)), (None, None, None, (0, SAME))))
        self.assertEqual(least_name(DOUBLE), DOUBLE)
        self.assertEqual(least_name(beside(PAIR, ALONE)), beside(ALONE, least_name(PAIR)))
        self.assertEqual(least_name(beside(DOUBLE, beside(PAIR, FOLDED))),
                         beside(beside(least_name(PAIR), least_name(FOLDED)), DOUBLE))

    def test_the_least_of_all_renamings(self):
        for space in SPACES + MORE_SPACES + many_spaces()[::30] + [beside(FOLDED, ALONE), beside(BENT, ASLANT)]:
            if len(space) <= 2:
                self.assertEqual(key(least_name(space)), min(key(other) for _, _, other in all_renamings(space)))

    def test_the_least_of_all_renamings_of_three_blocks(self):
        for space in (CHAIN, beside(PAIR, FOLDED)):
            self.assertEqual(key(least_name(space)), min(key(other) for _, _, other in all_renamings(space)))

    def test_none_is_less_than_a_joining(self):
        for space in many_spaces() + reached_spaces():
            told = least_name(space)
            most = max(block.count(None) for block in space)
            self.assertEqual(told[0][:most], (None,) * most)

    def test_alike_to_the_space_and_its_own_least_name(self):
        for space in many_spaces() + reached_spaces():
            told = least_name(space)
            self.assertTrue(all_tuples(told))
            self.assertEqual(space_of(told), told)
            self.assertIsNotNone(alike(space, told))
            self.assertEqual(least_name(told), told)
            self.assertLessEqual(key(told), key(space))

    def test_the_same_of_all_renamings(self):
        for at, space in enumerate(many_spaces() + reached_spaces()):
            for step in range(3):
                other = renamed(space, *some_names_of(len(space), 3 * at + step))
                self.assertEqual(least_name(other), least_name(space))

    def test_below_all_renamings_that_are_tried(self):
        for space in reached_spaces():
            told = key(least_name(space))
            for seed in range(40):
                self.assertLessEqual(told, key(renamed(space, *some_names_of(len(space), seed))))
            # A renaming that begins with the same block, and one that has blocks changed behind it.
            many = len(told)
            if many > 2:
                order = [0] + list(range(2, many)) + [1]
                self.assertLessEqual(told, key(renamed(least_name(space), order, [SAME] * many)))

    def test_parts_in_any_order(self):
        parts = [PAIR, FOLDED, BENT, DOUBLE]
        names = set()
        for order in permutations(parts):
            space = order[0]
            for part in order[1:]:
                space = beside(space, part)
            names.add(least_name(space))
        self.assertEqual(len(names), 1)
        name = names.pop()
        for order in permutations(parts):
            space = least_name(order[0])
            for part in order[1:]:
                space = beside(space, least_name(part))
            self.assertLessEqual(key(name), key(space))

    def test_another_one_for_those_that_are_not_alike(self):
        spaces = one_of_each()
        for one in spaces:
            for other in spaces:
                self.assertEqual(least_name(one) == least_name(other), one == other)
        self.assertGreater(len(spaces), 10)

    def test_twelve_blocks_and_more(self):
        space = beside(BALL, beside(BALL, BALL))
        self.assertEqual(least_name(space), beside(least_name(BALL), beside(least_name(BALL), least_name(BALL))))
        space = walked(closed_ball_pair(), 3, 12, 17)
        self.assertEqual(least_name(renamed(space, list(range(len(space)))[::-1], [MIRROR] * len(space))),
                         least_name(space))


def one_of_each():
    """Spaces of which no two are alike, as trying all renamings tells."""
    told, seen = [], set()
    for space in [space for space in many_spaces() if len(space) == 1]:
        if space not in seen:
            told.append(space)
            seen.update(other for _, _, other in all_renamings(space))
    return told


class TestHandedInAndTold(unittest.TestCase):
    def test_what_is_handed_in_is_not_changed(self):
        for space in SPACES + MORE_SPACES:
            order, turns = some_names_of(len(space), 3)
            one, other = as_lists(space), as_lists(renamed(space, order, turns))
            paper = [list(order), as_lists(turns)]
            kept = as_lists([one, other, paper])
            self.assertEqual(alike(one, other), alike(space, renamed(space, order, turns)))
            self.assertIs(shows_alike(one, other, paper), True)
            self.assertEqual(least_name(one), least_name(space))
            self.assertEqual([one, other, paper], kept)

    def test_told_lists_are_the_askers_own(self):
        told, again = alike(DOUBLE, DOUBLE), alike(DOUBLE, DOUBLE)
        told[0].append(5)
        told[1].clear()
        self.assertEqual(alike(DOUBLE, DOUBLE), again)

    def test_the_same_lists_with_a_face_parted(self):
        blocks = as_lists(DOUBLE)
        self.assertIsNotNone(alike(blocks, DOUBLE))
        self.assertEqual(least_name(blocks), DOUBLE)
        blocks[0][1] = blocks[1][1] = None
        self.assertIsNone(alike(blocks, DOUBLE))
        self.assertIs(shows_alike(blocks, DOUBLE, ([0, 1], [SAME, SAME])), False)
        self.assertEqual(least_name(blocks), least_name(parted(DOUBLE, 0, 1)))
        self.assertEqual(alike(blocks, parted(DOUBLE, 1, 1)), ([0, 1], [SAME, SAME]))

    def test_spaces_that_moves_tell(self):
        for move in moves_of(BALL):
            there, _ = moved(BALL, move)
            self.assertEqual(alike(there, there), ([*range(len(there))], [SAME] * len(there)))


if __name__ == "__main__":
    unittest.main()
