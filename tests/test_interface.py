"""The interface's rows: names, arguments, and the file that each one is defined in."""

import importlib
import inspect
import unittest

# Names that stand behind a star are handed by their names alone.
FUNCTIONS = {
    "spaces": ["space_of(blocks)", "joined(space, block, face, *, other, turn)", "parted(space, block, face)",
               "beside(one, other)", "renamed(space, order, turns)"],
    "texts": ["space_text(space)", "read_space(text)"],
    "cells": ["corners_of(space)", "edges_of(space)", "faces_of(space)", "counted(space)", "border(space)",
              "parts_of(space)", "turning(space)"],
    "around": ["around(space, corner)", "corner_words(space)", "is_sound(space)"],
    "numbers": ["arcs(numbers, block, face, *, corner)", "fits(space, numbers)", "is_surface(space, numbers)",
                "go_together(space, one, other)", "corner_surface(space, corner)", "sum_of(one, other)"],
    "least": ["least_surfaces(space)", "as_sum(space, numbers)", "sums_to(space, numbers, told)"],
    "pieces": ["pieces_counted(space, numbers)", "surface_parts(space, numbers)", "part_words(space, numbers)"],
    "rooms": ["rooms_of(space, numbers)"],
    "moves": ["moves_of(space)", "moved(space, move)"],
    "alike": ["alike(one, other)", "shows_alike(one, other, paper)", "least_name(space)"],
    "simpler": ["leads(space, way, other)", "way_to(space, other, *, moves, blocks)",
                "simplest(space, *, moves, blocks)", "taken_off(space)", "takes_off(space, order)"],
}
CLASSES = {
    "errors": ["RoomError", "NoSpace", "NoFace", "NoTurn", "NoName", "NoLine", "NoCorner", "NoNumbers", "NoSurface",
               "NoMove", "NoForm", "NoneYet"],
    "desk": ["Desk"],
}


class TestInterface(unittest.TestCase):
    def test_functions(self):
        for file, rows in FUNCTIONS.items():
            module = importlib.import_module("blockrooms." + file)
            for row in rows:
                function = getattr(module, row.partition("(")[0])
                self.assertTrue(inspect.isfunction(function), row)
                self.assertEqual(function.__module__, module.__name__, row)
                self.assertEqual(function.__name__ + str(inspect.signature(function)), row)

    def test_classes(self):
        for file, names in CLASSES.items():
            module = importlib.import_module("blockrooms." + file)
            for name in names:
                self.assertTrue(inspect.isclass(getattr(module, name)), name)
                self.assertEqual(getattr(module, name).__module__, module.__name__, name)

    def test_the_desk(self):
        desk = importlib.import_module("blockrooms.desk").Desk
        self.assertEqual(str(inspect.signature(desk)), "()")
        self.assertIn("say", vars(desk))
        self.assertEqual(str(inspect.signature(desk.say)), "(self, row)")
        self.assertIs(type(desk().say("show")), str)


if __name__ == "__main__":
    unittest.main()
