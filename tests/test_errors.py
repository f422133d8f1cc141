"""[3] The refusals and how they stand under each other."""

import unittest

from blockrooms import errors

NAMES = ["NoSpace", "NoFace", "NoTurn", "NoName", "NoLine", "NoCorner", "NoNumbers", "NoSurface",
         "NoMove", "NoForm", "NoneYet"]


class TestErrors(unittest.TestCase):
    def test_room_error_is_a_value_error(self):
        self.assertTrue(issubclass(errors.RoomError, ValueError))

    def test_each_stands_under_room_error(self):
        for name in NAMES:
            self.assertTrue(issubclass(getattr(errors, name), errors.RoomError), name)

    def test_none_stands_under_another_one(self):
        for name in NAMES:
            for other in NAMES:
                if name != other:
                    self.assertFalse(issubclass(getattr(errors, name), getattr(errors, other)), (name, other))

    def test_none_is_room_error_itself(self):
        for name in NAMES:
            self.assertFalse(issubclass(errors.RoomError, getattr(errors, name)), name)

    def test_no_line_has_its_line(self):
        for line in (1, 7, 300):
            self.assertEqual(errors.NoLine(line).line, line)

    def test_the_others_are_raised_and_caught(self):
        for name in NAMES:
            if name != "NoLine":
                with self.assertRaises(errors.RoomError) as caught:
                    raise getattr(errors, name)("why")
                self.assertIs(caught.exception.__class__, getattr(errors, name))


if __name__ == "__main__":
    unittest.main()
