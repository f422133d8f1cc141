"""[23] Ways and simpler spaces, [24] balls that are taken off, and [2] of them."""

import unittest
from itertools import combinations, permutations, product

from blockrooms.alike import least_name
from blockrooms.cells import border
from blockrooms.moves import moved, moves_of
from blockrooms.simpler import leads, simplest, taken_off, takes_off, way_to
from blockrooms.spaces import beside, joined, parted, renamed
from rooms_for_tests import (ALONE, ASLANT, BALL, BENT, BENT_WITHIN, BOTTLE, CHAIN, CLOSED, DOUBLE, FOLDED, LONE,
                             MORE_SPACES, ODD_THINGS, PAIR, RING, SAME, SPACES, TORUS, TWISTED, as_lists, many_spaces,
                             merged_edges)
from moves_for_tests import FOUR_AROUND, ROWS, THREE_AROUND, closed_ball_pair, reached_spaces, walked
from test_whole import some_names

MIRROR = (1, 0, 2, 3)


def done(space, way):
    for move in way:
        space = moved(space, move)[0]
    return space


def all_ways(space, many, blocks):
    """All ways of so many moves, sorted, with the spaces that they lead to."""
    if many == 0:
        yield [], space
    else:
        for move in moves_of(space):
            there = moved(space, move)[0]
            if len(there) <= blocks:
                for way, end in all_ways(there, many - 1, blocks):
                    yield [move] + way, end


def tried_way(space, other, moves, blocks):
    name = least_name(other)
    for many in range(moves + 1):
        for way, end in all_ways(space, many, blocks):
            if len(end) == len(name) and least_name(end) == name:
                return way
    return None


def tried_simplest(space, moves, blocks):
    found = [(len(end), many, way) for many in range(moves + 1) for way, end in all_ways(space, many, blocks)]
    return min(found)[2]


class TestLeads(unittest.TestCase):
    def test_true(self):
        self.assertIs(leads(PAIR, [], PAIR), True)
        self.assertIs(leads(PAIR, [], renamed(PAIR, [1, 0], [MIRROR, SAME])), True)
        self.assertIs(leads(ALONE, [("fill", 0)], BALL), True)
        self.assertIs(leads(ALONE, [("fill", 0), ("drain", 2, 2)], ALONE), True)
        self.assertIs(leads(PAIR, [("split", 0, 3)], THREE_AROUND), True)
        self.assertIs(leads(PAIR, (["split", 1, 3], ("fuse", 2, 0, 1)), PAIR), True)
        self.assertIs(leads(CHAIN, [("fill", 0)] * 4, done(CHAIN, [("fill", 0)] * 4)), True)

    def test_another_space_at_the_end(self):
        self.assertIs(leads(PAIR, [], ALONE), False)
        self.assertIs(leads(PAIR, [], beside(ALONE, ALONE)), False)
        self.assertIs(leads(ALONE, [("fill", 0)], ALONE), False)
        self.assertIs(leads(PAIR, [("split", 0, 3)], PAIR), False)
        # Met on the way, but not at the end.
        self.assertIs(leads(ALONE, [("fill", 0), ("drain", 0, 0)], BALL), False)

    def test_a_move_that_cannot_be_done(self):
        for move in (("split", 0, 0), ("fuse", 0, 0, 1), ("drain", 0, 0), ("fill", 1)):
            self.assertIs(leads(ALONE, [move], ALONE), False)
        # At first it could be done, but no longer; or at last, but not yet.
        self.assertIs(leads(BALL, [("drain", 0, 0), ("drain", 1, 1)], ALONE), False)
        self.assertIs(leads(ALONE, [("drain", 0, 0), ("fill", 0)], BALL), False)
        self.assertIs(leads(BALL, [("drain", 0, 0), ("fill", 3), ("fill", 0)], BALL), False)

    def test_what_is_no_move(self):
        for move in ODD_THINGS + [[], (), ("fill",), ("fill", True), ("fill", "0"), ("grow", 0), [["fill", 0]],
                                  "fill 0", ("fill", 0, 0), ("fuse", 0, 1, 0), 10 ** 29, (0, 0), ([], 0)]:
            self.assertIs(leads(ALONE, [move], BALL), False)
            self.assertIs(leads(ALONE, [("fill", 0), move], BALL), False)
            self.assertIs(leads(ALONE, [move, ("fill", 0)], BALL), False)

    def test_what_is_no_list(self):
        for way in ODD_THINGS[:-2] + ["fill 0", ("fill", 0)]:
            self.assertIs(leads(ALONE, way, ALONE), False)

    def test_told_ways_and_all_others(self):
        for way, end in all_ways(BALL, 2, 8):
            self.assertIs(leads(BALL, way, end), True)
            self.assertIs(leads(BALL, way, renamed(end, list(range(len(end)))[::-1], [MIRROR] * len(end))), True)


class TestWayTo(unittest.TestCase):
    def test_none_needed(self):
        for space in SPACES + MORE_SPACES:
            for order, turns in list(some_names(len(space)))[:2]:
                for moves, blocks in ((0, 0), (3, 8), (2, 1)):
                    self.assertEqual(way_to(space, renamed(space, order, turns), moves=moves, blocks=blocks), [])

    def test_by_hand(self):
        self.assertEqual(way_to(ALONE, BALL, moves=1, blocks=4), [("fill", 0)])
        self.assertEqual(way_to(BALL, ALONE, moves=3, blocks=8), [("drain", 0, 0)])
        self.assertEqual(way_to(PAIR, THREE_AROUND, moves=2, blocks=5), [("split", 0, 3)])
        self.assertEqual(way_to(beside(ALONE, BALL), beside(BALL, ALONE), moves=1, blocks=9), [])
        self.assertEqual(way_to(beside(ALONE, ALONE), beside(BALL, BALL), moves=2, blocks=8), [("fill", 0)] * 2)

    def test_none_within_the_bounds(self):
        self.assertIsNone(way_to(ALONE, BALL, moves=0, blocks=8))
        self.assertIsNone(way_to(ALONE, BALL, moves=3, blocks=3))
        self.assertIsNone(way_to(ALONE, FOLDED, moves=3, blocks=8))
        self.assertIsNone(way_to(beside(ALONE, ALONE), beside(BALL, BALL), moves=1, blocks=8))
        self.assertIsNone(way_to(beside(ALONE, ALONE), beside(BALL, BALL), moves=2, blocks=7))
        self.assertIsNone(way_to(PAIR, ALONE, moves=3, blocks=8))
        # A block filled, and one of the edges within fused: no other way leads there.
        three = done(ALONE, [("fill", 0), ("fuse", 0, 0, 1)])
        self.assertEqual(len(three), 3)
        self.assertIsNone(way_to(ALONE, three, moves=2, blocks=3))
        self.assertEqual(way_to(ALONE, three, moves=2, blocks=4), [("fill", 0), ("fuse", 0, 0, 1)])
        # The first space may have more blocks than the bound, those behind moves not.
        self.assertEqual(way_to(BALL, ALONE, moves=1, blocks=1), [("drain", 0, 0)])
        self.assertIsNone(way_to(BALL, ALONE, moves=1, blocks=0))
        self.assertEqual(way_to(THREE_AROUND, PAIR, moves=3, blocks=2), [("fuse", 0, 0, 1)])

    def test_one_that_needs_more_blocks_on_the_way(self):
        found = 0
        for space in [space for space in reached_spaces() if len(space) <= 3][:4] + [PAIR, THREE_AROUND]:
            for way, end in list(all_ways(space, 2, 7))[::23]:
                most = max([len(moved(space, way[0])[0]), len(end)])
                told = way_to(space, end, moves=2, blocks=most)
                self.assertIs(leads(space, told, end), True)
                self.assertEqual(way_to(space, end, moves=2, blocks=len(end)), tried_way(space, end, 2, len(end)))
                found += way_to(space, end, moves=2, blocks=len(end)) is None
        self.assertGreater(found, 0)

    def test_the_first_of_the_shortest_by_trying(self):
        spaces = [ALONE, FOLDED, PAIR, DOUBLE, THREE_AROUND, BENT, RING]
        lengths = set()
        for at, space in enumerate(spaces):
            for seed in range(6):
                other = walked(space, 7 * at + seed, 1 + seed % 3, 6)
                for moves, blocks in ((2, 6), (3, 4)):
                    told = way_to(space, other, moves=moves, blocks=blocks)
                    self.assertEqual(told, tried_way(space, other, moves, blocks))
                    lengths.add(told if told is None else len(told))
        self.assertTrue({None, 0, 1, 2, 3} >= lengths >= {None, 1, 2})

    def test_six_blocks_three_moves(self):
        found = 0
        for seed in range(12):
            space = walked([BALL, closed_ball_pair(), CHAIN, TORUS][seed % 4], seed, 6, 6)
            if len(space) <= 6:
                other = walked(space, seed + 100, 3, 6)
                told = way_to(space, other, moves=3, blocks=8)
                self.assertLessEqual(len(told), 3)
                self.assertIs(leads(space, told, other), True)
                for shorter in range(len(told)):
                    self.assertIsNone(way_to(space, other, moves=shorter, blocks=8))
                found += len(told) == 3
        self.assertGreater(found, 0)

    def test_the_kinds_of_what_is_told(self):
        told = way_to(PAIR, done(PAIR, [("fill", 0), ("fill", 1)]), moves=2, blocks=8)
        self.assertIs(type(told), list)
        self.assertEqual([type(part) for move in told for part in (move, *move)], [tuple, str, int] * 2)

    def test_the_bounds_are_handed_by_name_in_any_order(self):
        self.assertEqual(way_to(ALONE, BALL, blocks=4, moves=1), way_to(ALONE, BALL, moves=1, blocks=4))
        self.assertEqual(simplest(BALL, blocks=4, moves=1), simplest(BALL, moves=1, blocks=4))
        for handed in (lambda: way_to(ALONE, BALL, 1, 4), lambda: simplest(BALL, 1, 4)):
            self.assertRaises(TypeError, handed)


class TestSimplest(unittest.TestCase):
    def test_by_hand(self):
        self.assertEqual(simplest(BALL, moves=3, blocks=8), [("drain", 0, 0)])
        self.assertEqual(simplest(THREE_AROUND, moves=1, blocks=8), [("fuse", 0, 0, 1)])
        self.assertEqual(simplest(beside(BALL, BALL), moves=2, blocks=8), [("drain", 0, 0), ("drain", 0, 0)])
        self.assertEqual(simplest(beside(BALL, BALL), moves=1, blocks=8), [("drain", 0, 0)])

    def test_no_move_where_no_space_has_fewer_blocks(self):
        for space in (ALONE, FOLDED, CLOSED, PAIR, DOUBLE, BENT):
            for moves in range(4):
                self.assertEqual(simplest(space, moves=moves, blocks=6), tried_simplest(space, min(moves, 2), 6))
        self.assertEqual(simplest(ALONE, moves=3, blocks=8), [])
        self.assertEqual(simplest(BALL, moves=0, blocks=8), [])

    def test_the_bound_of_blocks(self):
        self.assertEqual(simplest(BALL, moves=3, blocks=0), [])
        self.assertEqual(simplest(BALL, moves=3, blocks=1), [("drain", 0, 0)])
        self.assertEqual(simplest(THREE_AROUND, moves=1, blocks=1), [])
        self.assertEqual(simplest(THREE_AROUND, moves=1, blocks=2), [("fuse", 0, 0, 1)])
        # Two in the middle meet at three faces, around a corner of two blocks: it has four with a block more.
        row = beside(ALONE, beside(DOUBLE, ALONE))
        for face in range(1, 4):
            self.assertEqual(row[1][face], (2, SAME))
        row = joined(joined(parted(row, 1, 0), 1, 0, other=0, turn=SAME), 2, 0, other=3, turn=SAME)
        self.assertEqual(simplest(row, moves=3, blocks=4), [])
        told = simplest(row, moves=3, blocks=5)
        self.assertEqual(told, tried_simplest(row, 2, 5))
        self.assertEqual([move[0] for move in told], ["split", "drain"])

    def test_the_first_of_the_shortest_by_trying(self):
        lengths = set()
        for space in SPACES + reached_spaces():
            if len(space) <= 4:
                told = simplest(space, moves=2, blocks=6)
                self.assertEqual(told, tried_simplest(space, 2, 6))
                lengths.add(len(told))
        self.assertEqual(lengths, {0, 1, 2})

    def test_three_moves(self):
        for seed in range(4):
            space = walked([BALL, TORUS, BENT, PAIR][seed], seed + 3, 4, 5)
            self.assertEqual(simplest(space, moves=3, blocks=5), tried_simplest(space, 3, 5))
        for seed in range(6):
            space = walked([BALL, CHAIN, TORUS][seed % 3], seed + 50, 6, 6)
            self.assertLessEqual(len(done(space, simplest(space, moves=3, blocks=8))), len(space))


def may_be_taken(space, block, left):
    """Whether a block may be taken off those that are left, by the words, with edges by merging."""
    faces = [f for f in range(4) if space[block][f] is not None and space[block][f][0] in left]
    if not 1 <= len(faces) <= 3 or block in [space[block][f][0] for f in faces]:
        return False
    rest = [b for b in left if b != block]
    own = tuple(tuple(None if j is None or j[0] not in rest else (rest.index(j[0]), j[1]) for j in space[b])
                for b in rest)
    rows = merged_edges(own)
    rows += [[(b, end, start) for b, start, end in row] for row in rows]
    for one, other in combinations(faces, 2):
        ends = sorted({0, 1, 2, 3} - {one, other})
        seen = [(rest.index(space[block][f][0]), *[space[block][f][1][end] for end in ends]) for f in (one, other)]
        if not any(seen[0] in row and seen[1] in row for row in rows):
            return False
    return True


def is_order(space, order):
    left = list(range(len(space)))
    for block in order[:-1]:
        if not may_be_taken(space, block, left):
            return False
        left.remove(block)
    return all(joining is None or joining[0] not in left for joining in space[left[0]])


def tried_order(space):
    return next((list(order) for order in permutations(range(len(space))) if is_order(space, order)), None)


class TestTakenOff(unittest.TestCase):
    def test_of_one_block(self):
        self.assertEqual(taken_off(ALONE), [0])
        for space in (FOLDED, CLOSED, BOTTLE, ASLANT, BENT, BENT_WITHIN, TWISTED):
            self.assertIsNone(taken_off(space))

    def test_of_balls(self):
        self.assertEqual(taken_off(PAIR), [0, 1])
        self.assertEqual(taken_off(BALL), [0, 1, 2, 3])
        self.assertEqual(taken_off(THREE_AROUND), [0, 1, 2])
        self.assertEqual(taken_off(FOUR_AROUND), [0, 1, 2, 3])

    def test_of_spaces_that_are_no_balls(self):
        for space in (DOUBLE, TORUS, RING, CHAIN, closed_ball_pair()):
            self.assertIsNone(taken_off(space))

    def test_of_several_parts(self):
        for space in (beside(ALONE, ALONE), beside(BALL, ALONE), beside(PAIR, PAIR), (LONE,) * 12,
                      beside(beside(BALL, BALL), BALL)):
            self.assertIsNone(taken_off(space))

    def test_not_each_block_may_go_first(self):
        # The block in the middle of three in a row goes behind one of the others.
        row = joined(joined((LONE,) * 3, 1, 0, other=0, turn=SAME), 1, 1, other=2, turn=SAME)
        self.assertEqual(taken_off(row), [0, 1, 2])
        self.assertEqual(taken_off(renamed(row, [1, 0, 2], [SAME] * 3)), [1, 0, 2])
        for order in permutations(range(3)):
            self.assertIs(takes_off(row, list(order)), order[0] != 1)

    def test_edges_that_are_not_one_in_what_is_left(self):
        # Four around an edge: behind one of them the one across has neighbours that meet nowhere else.
        for order in permutations(range(4)):
            self.assertIs(takes_off(FOUR_AROUND, list(order)), abs(order[0] - order[1]) != 2)
        # Of four in a row that lie around an edge the outer ones go first.
        row = parted(FOUR_AROUND, 0, 2)
        self.assertEqual([order for order in permutations(range(4)) if takes_off(row, order)],
                         [order for order in permutations(range(4)) if is_order(row, order)])
        self.assertIs(takes_off(row, [2, 1, 0, 3]), False)
        self.assertEqual(taken_off(row), [0, 1, 2, 3])

    def test_edges_in_contrary_directions(self):
        # The edge of both faces of block 0 is one edge of block 1, seen in both directions.
        fold = joined(joined((LONE, LONE), 0, 2, other=1, turn=(0, 1, 2, 3)), 0, 3, other=1, turn=(1, 0, 2, 3))
        self.assertIs(takes_off(fold, [0, 1]), False)
        self.assertIsNone(taken_off(fold))
        fold = joined(joined((LONE, LONE), 0, 2, other=1, turn=(0, 1, 2, 3)), 0, 3, other=1, turn=(0, 1, 2, 3))
        self.assertIs(takes_off(fold, [0, 1]), True)

    def test_a_block_joined_to_itself_is_never_taken_off(self):
        # A ball, but no order takes it off.
        self.assertIsNone(taken_off(ASLANT))
        space = joined(PAIR, 1, 0, other=1, turn=(1, 0, 2, 3))
        self.assertIsNone(taken_off(space))
        for order in ([0, 1], [1, 0]):
            self.assertIs(takes_off(space, order), False)
            self.assertIs(takes_off(beside(FOLDED, ALONE), order), False)

    def test_the_first_order_by_trying(self):
        found = {True: 0, False: 0}
        for space in many_spaces() + [space for space in reached_spaces() if len(space) <= 5]:
            told = taken_off(space)
            self.assertEqual(told, tried_order(space), space)
            found[told is None] += 1
        self.assertGreater(min(found.values()), 20)

    def test_of_walked_balls(self):
        later = 0
        for seed in range(30):
            space = walked([ALONE, PAIR, BALL][seed % 3], seed, 8, 12)
            order = [(5 * k + seed) % len(space) for k in range(len(space))]
            if sorted(order) == list(range(len(space))):
                space = renamed(space, order, [MIRROR] * len(space))
            told = taken_off(space)
            # These are balls; what keeps some from being taken off is a block that is joined to itself.
            if told is None:
                self.assertTrue(any(joining is not None and joining[0] == block for block, faces in enumerate(space)
                                    for joining in faces))
            else:
                self.assertIs(takes_off(space, told), True)
                self.assertTrue(is_order(space, told))
                later += told != list(range(len(space)))
        self.assertGreater(later, 3)

    def test_twelve_blocks_and_more(self):
        for seed in range(4):
            space = walked(walked(BALL, seed, 12, 12), seed, 6, 15)
            self.assertGreaterEqual(len(space), 12)
            told = taken_off(space)
            self.assertIs(told is None or takes_off(space, told), True)
        self.assertIsNone(taken_off(walked(closed_ball_pair(), 9, 6, 12)))
        self.assertIsNone(taken_off(walked(RING, 9, 12, 12)))

    def test_it_is_a_list_of_numbers(self):
        told = taken_off(BALL)
        self.assertEqual((type(told), {type(block) for block in told}), (list, {int}))


class TestTakesOff(unittest.TestCase):
    def test_all_orders(self):
        for space in many_spaces()[::2] + [space for space in reached_spaces() if len(space) <= 4]:
            for order in permutations(range(len(space))):
                self.assertIs(takes_off(space, list(order)), is_order(space, order))

    def test_the_last_one_is_joined_with_nothing(self):
        self.assertIs(takes_off(ALONE, [0]), True)
        self.assertIs(takes_off(ALONE, (0,)), True)
        self.assertIs(takes_off(FOLDED, [0]), False)
        space = joined(PAIR, 1, 0, other=1, turn=MIRROR)
        self.assertIs(takes_off(space, [0, 1]), False)
        self.assertIs(takes_off(space, [1, 0]), False)

    def test_of_any_list(self):
        for order in ODD_THINGS + [[], (), [0], [0, 1, 2], [0, 0], [1, 1], [0, 2], [0, -1], [-1, 0], [0, True],
                                   [False, 1], [0.0, 1], ["0", "1"], "01", [[0], [1]], [None, 0], [0, None],
                                   [0, 10 ** 29], [[], {}], [object(), 0], range(2), {0: 0, 1: 1}, b"01"]:
            self.assertIs(takes_off(PAIR, order), False, order)
        for order in ([0, 1], [1, 0], (0, 1)):
            self.assertIs(takes_off(PAIR, order), True)


class TestHandedInAndTold(unittest.TestCase):
    def test_what_is_handed_in_is_not_changed(self):
        one, other, way, order = as_lists(PAIR), as_lists(THREE_AROUND), [["split", 0, 3]], [1, 0]
        self.assertIs(leads(one, way, other), True)
        self.assertEqual(way_to(one, other, moves=1, blocks=3), [("split", 0, 3)])
        self.assertEqual(simplest(other, moves=2, blocks=3), [("fuse", 0, 0, 1)])
        self.assertEqual(taken_off(one), [0, 1])
        self.assertIs(takes_off(one, order), True)
        self.assertEqual((one, other, way, order), (as_lists(PAIR), as_lists(THREE_AROUND), [["split", 0, 3]], [1, 0]))

    def test_told_lists_are_the_askers_own(self):
        for ask in (lambda: way_to(ALONE, BALL, moves=2, blocks=8), lambda: simplest(BALL, moves=2, blocks=8),
                    lambda: taken_off(BALL), lambda: way_to(ALONE, ALONE, moves=2, blocks=8)):
            told, again = ask(), ask()
            told.append(0)
            told[0] = None
            self.assertEqual(ask(), again)

    def test_the_same_lists_with_a_face_parted(self):
        blocks = as_lists(PAIR)
        self.assertEqual((taken_off(blocks), way_to(blocks, PAIR, moves=1, blocks=2)), ([0, 1], []))
        self.assertIs(leads(blocks, [("split", 0, 3)], THREE_AROUND), True)
        blocks[0][3] = blocks[1][3] = None
        self.assertEqual((taken_off(blocks), way_to(blocks, PAIR, moves=1, blocks=2)), (None, None))
        self.assertIs(leads(blocks, [("split", 0, 3)], THREE_AROUND), False)
        self.assertIs(takes_off(blocks, [0, 1]), False)
        blocks = as_lists(BALL)
        self.assertEqual(simplest(blocks, moves=1, blocks=4), [("drain", 0, 0)])
        blocks[0][1] = blocks[1][0] = None
        self.assertEqual(simplest(blocks, moves=1, blocks=4), simplest(parted(BALL, 0, 1), moves=1, blocks=4))
        self.assertNotEqual(simplest(blocks, moves=1, blocks=4), [("drain", 0, 0)])
        self.assertEqual(len(border(blocks)), 6)


if __name__ == "__main__":
    unittest.main()
