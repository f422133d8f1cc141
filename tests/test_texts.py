"""[7] Texts of spaces, written and read, and [3], [4] of them."""

import re
import unittest

from blockrooms.errors import NoLine, NoSpace
from blockrooms.spaces import beside, renamed
from blockrooms.texts import read_space, space_text
from rooms_for_tests import (ALONE, CHAIN, CLOSED, DOUBLE, FOLDED, LONE, PAIR, SPACES, TURNS, all_tuples, as_lists,
                             one_block_spaces)

PLAIN_WORD = re.compile(r"-|(0|[1-9][0-9]*):[0-3]{4}")
GOOD = "- - - 1:0213\n- - - 0:0213"


def first_bad_line(text):
    """The first line of no form, told by another way than the program's; None where all have one."""
    for at, line in enumerate(text.split("\n")):
        words = line.split(" ")
        good = [PLAIN_WORD.fullmatch(w) and len(set(w.partition(":")[2])) in (0, 4) for w in words]
        if len(words) != 4 or not all(good):
            return at + 1
    return None


class TestSpaceText(unittest.TestCase):
    def test_by_hand(self):
        self.assertEqual(space_text(ALONE), "- - - -")
        self.assertEqual(space_text(FOLDED), "0:1023 0:1023 - -")
        self.assertEqual(space_text(PAIR), GOOD)
        self.assertEqual(space_text(CLOSED), "0:1230 0:3012 0:0231 0:0312")
        self.assertEqual(space_text(CHAIN), "1:3102 - - -\n- 2:1230 - 0:2130\n2:3012 - 1:3012 2:1230")

    def test_numbers_of_two_figures(self):
        text = space_text(beside((LONE,) * 10, DOUBLE))
        self.assertEqual(text.split("\n")[10:], ["11:0123 11:0123 11:0123 11:0123", "10:0123 10:0123 10:0123 10:0123"])
        self.assertEqual(read_space(text), beside((LONE,) * 10, DOUBLE))

    def test_lists_may_be_handed_in_and_are_not_changed(self):
        for space in SPACES:
            blocks = as_lists(space)
            self.assertEqual(space_text(blocks), space_text(space))
            self.assertEqual(blocks, as_lists(space))

    def test_a_list_changed_is_told_as_it_is_then(self):
        blocks = as_lists(FOLDED)
        self.assertEqual(space_text(blocks), "0:1023 0:1023 - -")
        blocks[0][0] = blocks[0][1] = None
        self.assertEqual(space_text(blocks), "- - - -")

    def test_read_back_it_is_the_space(self):
        for space in SPACES + one_block_spaces() + [beside(CHAIN, CLOSED), beside((LONE,) * 20, CHAIN)]:
            told = read_space(space_text(space))
            self.assertEqual(told, space)
            self.assertTrue(all_tuples(told))

    def test_renamed_and_read_back(self):
        for shift in range(24):
            turns = [TURNS[(shift + 11 * k) % 24] for k in range(3)]
            space = renamed(CHAIN, [2, 0, 1], turns)
            self.assertEqual(read_space(space_text(space)), space)


class TestReadSpace(unittest.TestCase):
    def bad_line(self, text, line):
        with self.assertRaises(NoLine, msg=repr(text)) as caught:
            read_space(text)
        self.assertEqual(caught.exception.line, line, repr(text))

    def no_space(self, text):
        with self.assertRaises(NoSpace, msg=repr(text)):
            read_space(text)

    def test_by_hand(self):
        self.assertEqual(read_space("- - - -"), ALONE)
        self.assertEqual(read_space(GOOD), PAIR)
        self.assertEqual(read_space("- - - -\n- - - -"), (LONE, LONE))

    def test_the_same_again(self):
        self.assertEqual(read_space(GOOD), read_space(GOOD))

    def test_words_of_no_form(self):
        words = ["", "--", "+", "0", ":", "0:", ":0123", "0:012", "0:01233", "0:0122", "0:1234", "0:012a", "0:01 23",
                 "0:0123:", "0:0123:0", "0::0123", "00:0123", "01:0123", "-1:0123", "+1:0123", "1.0:0123", "a:0123",
                 "1_0:0123", "0x1:0123", "1e1:0123", "0:0-23", "0:0,1,2,3", "0;0123", "0:3333", "-:0123", "None",
                 "0:(0123)", "\"0\":0123", "0:012~", "0:+012", "0000000000:0123", "0" * 40 + ":0123", "0:0123-"]
        for word in words:
            for place in range(4):
                line = ["-"] * 4
                line[place] = word
                self.bad_line(" ".join(line), 1)
                self.bad_line("\n".join(["- - - -", " ".join(line), "- - - -"]), 2)

    def test_blanks_and_words_too_few_or_too_many(self):
        for line in ("-", "- - -", "- - - - -", " - - - -", "- - - - ", "-  - - -", "- - -  -", "----", " ", "    ",
                     "-,-,-,-", "-/-/-/-", "0:1023 0:1023 -", "0:1023 0:1023 - - -", "0:1023  0:1023 - -"):
            self.bad_line(line, 1)
            self.bad_line(GOOD + "\n" + line, 3)

    def test_empty_lines(self):
        self.bad_line("", 1)
        self.bad_line("\n", 1)
        self.bad_line("- - - -\n", 2)
        self.bad_line(GOOD + "\n", 3)
        self.bad_line("\n" + GOOD, 1)
        self.bad_line("- - - -\n\n- - - -", 2)

    def test_the_first_line_of_no_form_is_told(self):
        self.bad_line("- - - -\n- - - - -\n- - -\n", 2)
        self.bad_line("- - -\n- - - -\n- - -", 1)

    def test_other_lines_that_write_no_space_do_not_go_first(self):
        self.bad_line("9:0123 - - -\n- - - -\n- -", 3)
        self.bad_line("1:0123 - - -\n- - - -\n- - - 00:0123", 3)
        self.bad_line("9" * 2000 + ":0123 - - -\n-", 2)

    def test_good_form_but_no_space(self):
        for text in ("1:0123 - - -", "0:0123 - - -", "0:1023 - - -", "0:1023 0:1032 - -", "1:0123 - - -\n- - - -",
                     "- - - 1:0213\n- - - 0:0123", "- - - 1:0213\n- - - 2:0213", "- - - 2:0213\n- - - 0:0213",
                     "1:0231 - - -\n0:0231 - - -"):
            self.no_space(text)

    def test_numbers_of_many_figures(self):
        for many in (2, 30, 31, 300, 899, 901, 3900):
            for figures in ("1" + "0" * (many - 1), "9" * many):
                self.no_space(f"{figures}:0123 - - -")
                self.no_space(f"{figures}:0123 {figures}:0123 - -\n- - - -")
                self.bad_line(f"0{figures}:0123 - - -", 1)
                self.bad_line(f"{figures}:0123 - -", 1)

    def test_every_text_changed_at_one_place(self):
        # Held against another reading of the form; no NoLine where all lines have one.
        for text in (GOOD, space_text(FOLDED), space_text(CHAIN)):
            for at in range(len(text) + 1):
                for sign in "-: 0124a\n":
                    self.held(text[:at] + sign + text[at:])
                    self.held(text[:at] + sign + text[at + 1:])
                self.held(text[:at] + text[at + 1:])

    def held(self, text):
        line = first_bad_line(text)
        if line is not None:
            self.bad_line(text, line)
            return
        try:
            told = read_space(text)
        except NoSpace:
            return
        self.assertEqual(space_text(told), text)


if __name__ == "__main__":
    unittest.main()
