"""[4] What holds of surfaces in renamed spaces, of their sums, and of rooms."""

import unittest

from blockrooms.cells import corners_of
from blockrooms.least import as_sum, least_surfaces, sums_to
from blockrooms.numbers import corner_surface, go_together, is_surface, sum_of
from blockrooms.pieces import part_words, pieces_counted, surface_parts
from blockrooms.rooms import rooms_of
from blockrooms.spaces import renamed
from rooms_for_tests import MORE_SPACES, SPACES, many_spaces
from surfaces_for_tests import many_surfaces, numbers_renamed, without_bent_edges
from test_whole import some_names


def less(space, numbers):
    """Points, less sides, pieces added."""
    points, sides, pieces = pieces_counted(space, numbers)
    return points - sides + pieces


class TestRenamed(unittest.TestCase):
    def test_least_surfaces(self):
        for space in [space for space in SPACES + MORE_SPACES if len(space) <= 3]:
            for order, turns in some_names(len(space)):
                self.assertEqual(least_surfaces(renamed(space, order, turns)),
                                 sorted(numbers_renamed(numbers, order, turns) for numbers in least_surfaces(space)))

    def test_what_is_told_of_surfaces(self):
        for at, (space, numbers) in enumerate(many_surfaces()):
            order, turns = list(some_names(len(space)))[at % 24]
            other, same = renamed(space, order, turns), numbers_renamed(numbers, order, turns)
            self.assertEqual(pieces_counted(other, same), pieces_counted(space, numbers))
            pairs = zip(surface_parts(space, numbers), part_words(space, numbers))
            self.assertEqual(list(zip(surface_parts(other, same), part_words(other, same))),
                             sorted((numbers_renamed(part, order, turns), words) for part, words in pairs))
            places = self.places(space, other, order, turns)
            self.assertEqual(rooms_of(other, same), sorted(sorted(places[k] for k in room)
                                                           for room in rooms_of(space, numbers)))
            paper = [(many, numbers_renamed(least, order, turns)) for many, least in as_sum(space, numbers)]
            self.assertIs(sums_to(other, same, paper), True)

    def places(self, space, other, order, turns):
        """For each corner of the space its place among the other one's."""
        cells = corners_of(other)
        told = []
        for row in corners_of(space):
            block, corner = row[0]
            new = order.index(block)
            told.append([(new, turns[new][corner]) in there for there in cells].index(True))
        return told


class TestSums(unittest.TestCase):
    def test_every_surface_is_a_sum_of_least_ones_and_no_least_one_is(self):
        for space, numbers in many_surfaces():
            told, least = as_sum(space, numbers), least_surfaces(space)
            total = [0] * len(numbers)
            for many, part in told:
                self.assertIn(part, least)
                total = [one + many * other for one, other in zip(total, part)]
            self.assertEqual(total, list(numbers))
            self.assertIs(sums_to(space, numbers, told), True)
            for part in least:
                self.assertEqual(as_sum(space, part), [(1, part)])

    def test_what_is_counted_of_sums(self):
        pairs = 0
        for space in [space for space in many_spaces() if len(space) <= 3 and without_bent_edges(space)]:
            least = least_surfaces(space)
            for one in least[:6]:
                for other in least[-6:]:
                    if go_together(space, one, other):
                        self.assertEqual(less(space, sum_of(one, other)), less(space, one) + less(space, other))
                        pairs += 1
        self.assertGreater(pairs, 1000)

    def test_corners_surfaces_are_surfaces_that_go_with_each_one(self):
        for space, numbers in many_surfaces():
            for corner in range(len(corners_of(space))):
                surface = corner_surface(space, corner)
                self.assertIs(is_surface(space, surface), True)
                self.assertEqual(surface_parts(space, sum_of(numbers, surface)),
                                 sorted(surface_parts(space, numbers) + [surface]))


class TestRooms(unittest.TestCase):
    def test_one_more_copy_of_a_part_one_room_more(self):
        for space, numbers in many_surfaces():
            rooms = rooms_of(space, numbers)
            for part in surface_parts(space, numbers):
                self.assertEqual(rooms_of(space, sum_of(numbers, part)), sorted(rooms + [[]]))

    def test_a_surface_with_one_side_alone_parts_nothing(self):
        found = 0
        for space, numbers in many_surfaces():
            for part, words in zip(surface_parts(space, numbers), part_words(space, numbers)):
                if not words[3]:
                    self.assertEqual(rooms_of(space, part), rooms_of(space, [0] * len(part)))
                    found += 1
        self.assertGreater(found, 20)


if __name__ == "__main__":
    unittest.main()
