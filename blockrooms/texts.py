"""Texts: a line for each block of a space, in it a word for each face."""

from blockrooms.errors import NoLine
from blockrooms.spaces import space_of

FIGURES = "0123456789"


def space_text(space):
    """The space's text."""
    return "\n".join([_line_of(block) for block in space])


def _line_of(block):
    return " ".join([_word_of(joining) for joining in block])


def _word_of(joining):
    if joining is None:
        return "-"
    other, turn = joining
    figures = "".join([str(corner) for corner in turn])
    return f"{other}:{figures}"


def read_space(text):
    """The space that a text writes."""
    rows = [line.split(" ") for line in text.split("\n")]
    for at, words in enumerate(rows):
        if not _has_form(words):
            raise NoLine(at + 1)
    # Looked up by its figures a number is never made: one of very many figures is just no block's.
    numbers = {str(block): block for block in range(len(rows))}
    return space_of([_block_told(row, numbers) for row in rows])


def _has_form(words):
    return len(words) == 4 and all([word == "-" or is_joining_word(word) for word in words])


def is_joining_word(word):
    """Whether the word has the form N:ABCD."""
    number, _, turn = word.partition(":")
    return is_number_word(number) and sorted(turn) == ["0", "1", "2", "3"]


def is_number_word(word):
    """Whether the word is a whole number's figures, without noughts ahead."""
    if word == "" or not all([sign in FIGURES for sign in word]):
        return False
    return word == "0" or word[0] != "0"


def _block_told(words, numbers):
    return [_joining_told(word, numbers) for word in words]


def _joining_told(word, numbers):
    """The joining that a word of good form writes, with None for a number that is no block's."""
    if word == "-":
        return None
    number, _, turn = word.partition(":")
    return (numbers.get(number), [int(figure) for figure in turn])
