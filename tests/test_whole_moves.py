"""[4] What holds of moves, names, ways and balls in the whole."""

import unittest

from blockrooms.alike import alike, least_name, shows_alike
from blockrooms.around import around
from blockrooms.cells import border, corners_of, counted, parts_of, turning
from blockrooms.moves import moved, moves_of
from blockrooms.simpler import leads, simplest, taken_off, takes_off, way_to
from blockrooms.spaces import beside, renamed
from rooms_for_tests import ALONE, BALL, MORE_SPACES, PAIR, SPACES, many_spaces
from moves_for_tests import closed_ball_pair, named_blocks, reached_spaces, spaces_with_moves, walked
from test_alike import some_names_of
from test_simpler import done
from test_whole import some_names


class TestRenamed(unittest.TestCase):
    def test_moves_renamed(self):
        for at, space in enumerate(spaces_with_moves()):
            order, turns = some_names_of(len(space), at)
            other = renamed(space, order, turns)
            self.assertEqual(moves_of(other), sorted(self.named(move, order, turns) for move in moves_of(space)))
            for move in moves_of(space)[::5]:
                self.assertIsNotNone(alike(moved(space, move)[0], moved(other, self.named(move, order, turns))[0]))

    def named(self, move, order, turns):
        place = order.index(move[1])
        corners = [turns[place][corner] for corner in move[2:]]
        return (move[0], place, *(sorted(corners) if move[0] == "fuse" else corners))

    def test_least_names_and_alike(self):
        for space in SPACES + MORE_SPACES:
            for order, turns in some_names(len(space)):
                other = renamed(space, order, turns)
                self.assertEqual(least_name(other), least_name(space))
                self.assertIs(shows_alike(space, other, alike(space, other)), True)

    def test_balls(self):
        for at, space in enumerate(reached_spaces()):
            order, turns = some_names_of(len(space), at)
            told, other = taken_off(space), renamed(space, order, turns)
            self.assertEqual(taken_off(other) is None, told is None)
            if told is not None:
                self.assertIs(takes_off(other, [order.index(block) for block in told]), True)

    def test_how_long_the_ways_are(self):
        for at, space in enumerate([PAIR, BALL, *reached_spaces()[:12]]):
            other = walked(space, at, 2, 6)
            told = way_to(space, other, moves=2, blocks=8)
            names = [renamed(one, *some_names_of(len(one), at + 5)) for one in (space, other)]
            self.assertEqual(len(way_to(*names, moves=2, blocks=8)), len(told))
            few = [done(one, simplest(one, moves=2, blocks=6)) for one in (space, names[0])]
            self.assertEqual(len(few[0]), len(few[1]))


class TestMoves(unittest.TestCase):
    def test_each_is_undone_by_the_told_one(self):
        for space in many_spaces()[::2] + reached_spaces():
            for move in moves_of(space):
                there, back = moved(space, move)
                again, forth = moved(there, back)
                self.assertIsNotNone(alike(again, space))
                self.assertEqual(len(moved(again, forth)[0]), len(there))

    def test_what_each_keeps(self):
        for space in spaces_with_moves():
            corners, edges, faces, blocks = counted(space)
            for move in moves_of(space):
                there = moved(space, move)[0]
                self.assertEqual(len(parts_of(there)), len(parts_of(space)))
                self.assertEqual(len(border(there)), len(border(space)))
                self.assertEqual(turning(there) is None, turning(space) is None)
                more = counted(there)
                self.assertEqual(more[0] - more[1] + more[2] - more[3], corners - edges + faces - blocks)

    def test_what_lies_around_the_corners_that_stay(self):
        for space in spaces_with_moves():
            for move in moves_of(space):
                there = moved(space, move)[0]
                told = {new: around(there, new) for new in range(len(corners_of(there)))}
                for old, new in self.stayed(space, there, move):
                    self.assertEqual(around(space, old), told[new])
                self.assertEqual(len(told) - len(corners_of(space)), {"fill": 1, "drain": -1}.get(move[0], 0))

    def stayed(self, space, there, move):
        """Pairs of places: of each corner that stays, before and behind the move."""
        going, coming = named_blocks(space, move)
        stay = [block for block in range(len(space)) if block not in going]
        new = {cell: at for at, row in enumerate(corners_of(there)) for cell in row}
        for at, row in enumerate(corners_of(space)):
            for block, corner in row:
                if block in stay:
                    yield at, new[stay.index(block), corner]
                else:
                    name = going[block][corner]
                    for place, names in enumerate(coming):
                        if name in names:
                            yield at, new[len(stay) + place, names.index(name)]


class TestPapers(unittest.TestCase):
    def test_told_papers_are_let_by(self):
        for at, space in enumerate(reached_spaces()):
            other = renamed(space, *some_names_of(len(space), at))
            self.assertIs(shows_alike(space, other, alike(space, other)), True)
            told = taken_off(space)
            self.assertIs(takes_off(space, told), told is not None)

    def test_a_told_way_leads_where_it_says(self):
        for at, space in enumerate(reached_spaces()[::3]):
            if len(space) <= 6:
                other = walked(space, at, 3, 6)
                told = way_to(space, other, moves=3, blocks=8)
                self.assertIs(leads(space, told, other), True)
                few = simplest(space, moves=2, blocks=8)
                self.assertIs(leads(space, few, done(space, few)), True)

    def test_a_ball_is_taken_off_to_one_block(self):
        for seed in range(12):
            space = walked([ALONE, PAIR, BALL][seed % 3], seed, 5, 10)
            told = taken_off(space)
            if told is not None:
                self.assertEqual(sorted(told), list(range(len(space))))
                corners, edges, faces, blocks = counted(space)
                self.assertEqual(corners - edges + faces - blocks, 1)
        self.assertIsNone(taken_off(closed_ball_pair()))
        self.assertIsNone(taken_off(beside(BALL, BALL)))


if __name__ == "__main__":
    unittest.main()
