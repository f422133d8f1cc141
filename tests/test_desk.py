"""[25] The desk and its rows, and [2], [3] of it."""

import unittest
from itertools import product

from blockrooms.alike import least_name
from blockrooms.around import corner_words, is_sound
from blockrooms.cells import border, counted, turning
from blockrooms.desk import Desk
from blockrooms.errors import NoFace, NoForm, NoMove, NoneYet, NoSurface
from blockrooms.least import least_surfaces
from blockrooms.moves import moved, moves_of
from blockrooms.rooms import rooms_of
from blockrooms.simpler import taken_off
from blockrooms.texts import read_space, space_text
from rooms_for_tests import (ALONE, BALL, BENT, BOTTLE, CHAIN, CLOSED, DOUBLE, FOLDED, MORE_SPACES, PAIR, RING, SPACES,
                             TORUS, TWISTED)

QUESTIONS = ["show", "count", "border", "moves", "name", "corners", "sound", "turning", "off"]
THIRTY = "9" * 30


def rows_to(space):
    """Rows by which a new desk has the space."""
    rows = ["block"] * (len(space) - 1)
    for block, faces in enumerate(space):
        for face, joining in enumerate(faces):
            if joining is not None and (block, face) < (joining[0], joining[1][face]):
                rows.append(f"join {block} {face} {joining[0]}:{''.join(map(str, joining[1]))}")
    return rows


def desk_with(space):
    desk = Desk()
    for row in rows_to(space):
        desk.say(row)
    return desk


def space_at(desk):
    return read_space(desk.say("show").replace("/", "\n"))


class DeskTests(unittest.TestCase):
    def refused(self, error, desk, row):
        before = [desk.say(question) for question in QUESTIONS]
        with self.assertRaises(error, msg=repr(row)) as caught:
            desk.say(row)
        self.assertIs(caught.exception.__class__, error)
        self.assertEqual([desk.say(question) for question in QUESTIONS], before)


class TestChanges(DeskTests):
    def test_at_first_one_block_alone(self):
        self.assertEqual(Desk().say("show"), "- - - -")
        self.assertEqual(Desk().say("count"), "4 6 4 1")

    def test_desks_are_by_themselves(self):
        one, other = Desk(), Desk()
        one.say("block")
        self.assertEqual((one.say("show"), other.say("show")), ("- - - -/- - - -", "- - - -"))
        self.refused(NoneYet, other, "undo")

    def test_block(self):
        desk = Desk()
        self.assertEqual([desk.say("block") for _ in range(3)], ["1", "2", "3"])
        self.assertEqual(desk.say("show"), "/".join(["- - - -"] * 4))

    def test_join_and_part(self):
        desk = Desk()
        desk.say("block")
        self.assertEqual(desk.say("join 0 3 1:0213"), "ok")
        self.assertEqual(desk.say("show"), "- - - 1:0213/- - - 0:0213")
        self.assertEqual(desk.say("join 1 0 1:1023"), "ok")
        self.assertEqual(desk.say("show"), "- - - 1:0213/1:1023 1:1023 - 0:0213")
        self.assertEqual(desk.say("part 1 3"), "ok")
        self.assertEqual(desk.say("show"), "- - - -/1:1023 1:1023 - -")

    def test_all_spaces_by_their_rows(self):
        for space in SPACES + MORE_SPACES:
            desk = Desk()
            for row in rows_to(space):
                self.assertIn(desk.say(row), ["ok", "1", "2", "3"])
            self.assertEqual(desk.say("show"), space_text(space).replace("\n", "/"))

    def test_moves_tell_how_many_blocks_there_are(self):
        desk = desk_with(PAIR)
        self.assertEqual(desk.say("split 0 3"), "3")
        self.assertEqual(desk.say("fill 2"), "6")
        self.assertEqual(desk.say("drain 2 0"), "3")
        self.assertEqual(desk.say("fuse 0 0 1"), "2")
        self.assertEqual(desk.say("name"), "- - - 1:0123/- - - 0:0123")

    def test_moves_by_the_space_behind(self):
        for space in (BALL, PAIR, CHAIN, BENT, TORUS):
            for move in moves_of(space):
                desk = desk_with(space)
                there = moved(space, move)[0]
                self.assertEqual(desk.say(" ".join(map(str, move))), str(len(there)))
                self.assertEqual(space_at(desk), there)


class TestQuestions(DeskTests):
    def test_by_hand(self):
        desk = desk_with(PAIR)
        for row, told in (("count", "5 9 7 2"), ("border", "0 0; 0 1; 0 2; 1 0; 1 1; 1 2"), ("sound", "yes"),
                          ("moves", "fill 0; fill 1; split 0 3; split 1 3"), ("name", "- - - 1:0123/- - - 0:0123"),
                          ("corners", "outer outer outer outer outer"), ("turning", "1 1"), ("off", "0 1")):
            self.assertEqual(desk.say(row), told)

    def test_none_of_none(self):
        desk = desk_with(BOTTLE)
        self.assertEqual([desk.say(row) for row in ("border", "turning", "off")], ["none"] * 3)
        desk = desk_with(DOUBLE)
        self.assertEqual([desk.say(row) for row in ("border", "turning", "off")], ["none", "1 -1", "none"])
        self.assertEqual(desk_with(TWISTED).say("turning"), "none")
        self.assertEqual(desk_with(FOLDED).say("border"), "0 2; 0 3")

    def test_words_of_corners_and_of_sound(self):
        self.assertEqual(desk_with(BALL).say("corners"), "inner outer outer outer outer")
        self.assertEqual(desk_with(RING).say("corners"), "outer odd outer")
        self.assertEqual(desk_with(RING).say("sound"), "no")
        self.assertEqual(desk_with(BENT).say("sound"), "no")

    def test_least(self):
        self.assertEqual(desk_with(FOLDED).say("least"), "0,0,0,0,1,0,0 0,0,0,1,0,0,0 0,0,1,0,0,0,0 1,1,0,0,0,0,0")
        self.assertEqual(desk_with(CLOSED).say("least"), "1,1,1,1,0,0,0")
        told = desk_with(CHAIN).say("least").split(" ")
        self.assertEqual([list(map(int, word.split(","))) for word in told], least_surfaces(CHAIN))

    def test_rooms(self):
        desk = desk_with(FOLDED)
        for numbers, many in (("0,0,0,0,0,0,0", "1"), ("1,1,0,0,0,0,0", "2"), ("1,1,0,2,3,0,0", "7")):
            self.assertEqual(desk.say("rooms " + numbers), many)
        for space in (ALONE, CHAIN, TORUS, DOUBLE):
            for numbers in least_surfaces(space):
                self.assertEqual(desk_with(space).say("rooms " + ",".join(map(str, numbers))),
                                 str(len(rooms_of(space, numbers))))

    def test_all_by_what_the_stages_tell(self):
        for space in SPACES + MORE_SPACES:
            desk = desk_with(space)

            def things(told):
                return " ".join(map(str, told)) if told else "none"

            def rows(told):
                return "; ".join(" ".join(map(str, row)) for row in told) if told else "none"

            self.assertEqual(desk.say("count"), things(counted(space)))
            self.assertEqual(desk.say("border"), rows(border(space)))
            self.assertEqual(desk.say("moves"), rows(moves_of(space)))
            self.assertEqual(desk.say("name"), space_text(least_name(space)).replace("\n", "/"))
            self.assertEqual(desk.say("corners"), things(corner_words(space)))
            self.assertEqual(desk.say("sound"), "yes" if is_sound(space) else "no")
            self.assertEqual(desk.say("turning"), things(turning(space)))
            self.assertEqual(desk.say("off"), things(taken_off(space)))

    def test_questions_change_nothing_and_are_not_undone(self):
        desk = desk_with(PAIR)
        first = [desk.say(question) for question in QUESTIONS]
        self.assertEqual([desk.say(question) for question in QUESTIONS], first)
        desk.say("least")
        desk.say("rooms " + ",".join(["0"] * 14))
        self.assertEqual(desk.say("undo"), "ok")
        self.assertEqual(desk.say("show"), "- - - -/- - - -")


class TestUndo(DeskTests):
    ROWS = ["block", "join 0 3 1:0213", "split 0 3", "block", "fill 3", "part 0 2", "join 0 2 1:0123", "drain 3 0",
            "fuse 1 0 1", "fill 0", "part 2 1"]

    def test_of_each_row_that_changes_the_space(self):
        for many in range(1, len(self.ROWS) + 1):
            desk = Desk()
            for row in self.ROWS[:many - 1]:
                desk.say(row)
            before = desk.say("show")
            desk.say(self.ROWS[many - 1])
            self.assertNotEqual(desk.say("show"), before)
            self.assertEqual(desk.say("undo"), "ok")
            self.assertEqual(desk.say("show"), before)

    def test_many_behind_one_another(self):
        desk, shown = Desk(), []
        for row in self.ROWS:
            shown.append(desk.say("show"))
            desk.say(row)
        for told in shown[::-1]:
            self.assertEqual(desk.say("undo"), "ok")
            self.assertEqual(desk.say("show"), told)
        self.refused(NoneYet, desk, "undo")
        self.refused(NoneYet, desk, "undo")

    def test_behind_refused_rows_and_other_undone_ones(self):
        desk = Desk()
        self.refused(NoneYet, desk, "undo")
        desk.say("fill 0")
        for error, row in ((NoMove, "fuse 0 1 1"), (NoFace, "part 0 0"), (NoForm, "fill"), (NoFace, "join 0 0 9:0123")):
            self.refused(error, desk, row)
        desk.say("split 0 1")
        desk.say("undo")
        desk.say("fill 1")
        desk.say("undo")
        self.assertEqual(space_at(desk), BALL)
        desk.say("undo")
        self.assertEqual(space_at(desk), ALONE)
        self.refused(NoneYet, desk, "undo")
        desk.say("block")
        self.assertEqual(desk.say("undo"), "ok")

    def test_the_very_space_not_one_that_is_alike(self):
        desk = desk_with(CHAIN)
        for row in ("fill 0", "split 0 0", "split 1 1"):
            before = desk.say("show")
            desk.say(row)
            desk.say("undo")
            self.assertEqual(desk.say("show"), before)


class TestNoForm(DeskTests):
    def test_rows_of_no_form(self):
        desk = desk_with(BALL)
        for row in ("", " ", "  ", "\n", "help", "Block", "BLOCK", "blocks", "block ", " block", "block 1", "block\n",
                    "show ", "show 0", " show", "count 1", "undo 1", "undo ", "least 0", "off 0", "moves 1", "name -",
                    "sound ?", "border;", "show;count", "show\ncount", "none", "ok", "-", "0", "turning\n", "corners 0",
                    "fill", "fill ", "fill  0", " fill 0", "fill 0 ", "fill 0 0", "fill -1", "fill +1", "fill 00",
                    "fill 01", "fill 1.0", "fill a", "fill 0x1", "fill 1_0", "fill 0\n", "fill -", "fill 0;", "fill\t0",
                    "split 0", "split 0 1 2", "split 0  1", "split 0 01", "split 00 1", "split a 1", "split 0 a",
                    "drain 0", "drain 0 0 0", "drain 0 -0", "drain , 0", "fuse 0 0", "fuse 0 0 1 2", "fuse 0 0 01",
                    "fuse 0 a 1", "part 0", "part 0 0 0", "part 0 a", "part 01 0", "part - -"):
            self.refused(NoForm, desk, row)

    def test_joinings_of_no_form(self):
        desk = desk_with(BALL)
        for word in ("0:012", "0:01234", "0:0122", "0:0124", "00:0123", "01:0123", ":0123", "0:", "0", "-", "0:0123:",
                     "", "0;0123", "a:0123", "-1:0123", "0:0123 1", "0: 0123", "0 0123", "1:abcd",
                     "0:0123\n", "+1:0123",
                     THIRTY + "9:0123"):
            self.refused(NoForm, desk, "join 0 0 " + word)
        for row in ("join", "join 0", "join 0 0", "join 0 0:0123", "join 0:0123 0 0", "join 0  0:0123",
                    "join 00 0 0:1023", "join 0 00 0:1023", "join a 0 0:1023", "join 0 0 0:1023 ", "join -1 0 0:1023"):
            self.refused(NoForm, desk, row)

    def test_lists_of_no_form(self):
        desk = Desk()
        for word in ("", ",", "0,", ",0", "0,,0", "0,0,0,0,0,0,00", "0,0,0,0,0,0,-1", "0,0,0,0,0,0,a", "0,0,0,0,0,0,0,",
                     "0;0", "0,0,0,0,0,0,0 0", "0, 0,0,0,0,0,0", "01,0,0,0,0,0,0", "1.0,0,0,0,0,0,0", "[0,0,0,0,0,0,0]",
                     "0,0,0,0,0,0,1" + "0" * 30, "-", "none"):
            self.refused(NoForm, desk, "rooms " + word)
        self.refused(NoForm, desk, "rooms")
        self.refused(NoForm, desk, "rooms  0,0,0,0,0,0,0")

    def test_numbers_of_thirty_figures_and_of_more(self):
        desk = desk_with(BALL)
        for row in ("fill {}", "part {} 0", "part 0 {}", "split {} 0", "split 0 {}", "drain {} 0", "drain 0 {}",
                    "fuse {} 0 1", "fuse 0 {} 1", "fuse 0 0 {}", "join {} 0 0:0123", "join 0 {} 0:0123",
                    "join 0 0 {}:0123"):
            error = NoFace if row[0] in "jp" else NoMove
            self.refused(error, desk, row.format(THIRTY))
            self.refused(NoForm, desk, row.format(THIRTY + "9"))
            self.refused(NoForm, desk, row.format("1" + "0" * 4000))
            self.refused(NoForm, desk, row.format("0" * 2))
        self.refused(NoSurface, Desk(), f"rooms 0,0,0,0,{THIRTY},{THIRTY},0")
        self.refused(NoForm, Desk(), f"rooms 0,0,0,0,0,0,{THIRTY}9")


class TestRefused(DeskTests):
    def test_no_face(self):
        desk = desk_with(PAIR)
        for row in ("join 2 0 1:0123", "join 0 4 1:0123", "join 0 0 2:0123", "join 0 3 1:0123", "join 0 0 1:3120",
                    "join 0 0 0:0123", "join 1 2 1:0123", "join 0 0 0:3120", "part 0 0", "part 1 2", "part 2 0",
                    "part 0 4"):
            self.refused(NoFace, desk, row)

    def test_no_move(self):
        desk = desk_with(BALL)
        for row in ("fill 4", "split 0 0", "split 4 0", "split 0 4", "drain 0 1", "drain 4 0", "drain 0 4",
                    "fuse 0 1 0", "fuse 0 1 1", "fuse 0 1 2", "fuse 0 0 4", "fuse 4 0 1"):
            self.refused(NoMove, desk, row)
        words = {" ".join(map(str, move)) for move in moves_of(BALL)}
        for block, one, other in product(range(5), repeat=3):
            for row in (f"split {block} {one}", f"drain {block} {one}", f"fuse {block} {one} {other}", f"fill {block}"):
                if row not in words:
                    self.refused(NoMove, desk, row)

    def test_no_surface(self):
        desk = desk_with(FOLDED)
        for row in ("rooms 0", "rooms 0,0,0,0,0,0", "rooms 0,0,0,0,0,0,0,0", "rooms 1,0,0,0,0,0,0",
                    "rooms 0,0,0,0,0,1,1", "rooms " + ",".join(["0"] * 14)):
            self.refused(NoSurface, desk, row)

    def test_what_is_refused_changes_nothing(self):
        desk = desk_with(PAIR)
        for error, row in ((NoForm, "block 1"), (NoFace, "join 0 3 1:0213"), (NoFace, "part 0 0"),
                           (NoMove, "split 0 0"), (NoMove, "drain 0 0"), (NoSurface, "rooms 1"), (NoForm, "undone")):
            self.refused(error, desk, row)
        self.assertEqual(desk.say("undo"), "ok")
        self.assertEqual(desk.say("show"), "- - - -/- - - -")


if __name__ == "__main__":
    unittest.main()
