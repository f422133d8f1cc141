"""The desk, which has a space and is told rows: changes of the space, and questions about it."""

from blockrooms.alike import least_name
from blockrooms.around import corner_words, is_sound
from blockrooms.cells import border, counted, turning
from blockrooms.errors import NoForm, NoneYet
from blockrooms.least import least_surfaces
from blockrooms.moves import moved, moves_of
from blockrooms.rooms import rooms_of
from blockrooms.simpler import taken_off
from blockrooms.spaces import beside, joined, parted
from blockrooms.texts import is_joining_word, is_number_word, space_text

ALONE = ((None, None, None, None),)
MOST_FIGURES = 30

# Of each row's first word the kinds of those behind it.
FORMS = {
    "block": (), "join": ("number", "number", "joining"), "part": ("number", "number"),
    "split": ("number", "number"), "fuse": ("number", "number", "number"), "fill": ("number",),
    "drain": ("number", "number"), "undo": (), "show": (), "count": (), "border": (), "moves": (), "name": (),
    "corners": (), "sound": (), "turning": (), "least": (), "rooms": ("list",), "off": (),
}


class Desk:
    """A space, at first one block alone, and those that it was ahead of changes that are not undone."""

    def __init__(self):
        self.space = ALONE
        self.before = []

    def say(self, row):
        """What is told of a row."""
        told = _read(row)
        if told[0] == "undo":
            return self._undo()
        if told[0] in CHANGES:
            change = CHANGES[told[0]]
            space, answer = change(self.space, told)
            self.before.append(self.space)
            self.space = space
            return answer
        question = QUESTIONS[told[0]]
        return question(self.space, told)

    def _undo(self):
        if not self.before:
            raise NoneYet("there is nothing left to undo")
        self.space = self.before.pop()
        return "ok"


def _read(row):
    """The first word of a row, and what the others tell."""
    words = row.split(" ") if isinstance(row, str) else [""]
    if words[0] not in FORMS:
        raise NoForm("no row begins so")
    kinds = FORMS[words[0]]
    if len(words) != 1 + len(kinds):
        raise NoForm("the row has too many words, or too few")
    return [words[0]] + [_word_read(word, kind) for word, kind in zip(words[1:], kinds)]


def _word_read(word, kind):
    if kind == "joining":
        return _joining_read(word)
    if kind == "list":
        return [_number_read(part) for part in word.split(",")]
    return _number_read(word)


def _number_read(word):
    if not is_number_word(word) or len(word) > MOST_FIGURES:
        raise NoForm("a number has figures alone, thirty at most, without noughts ahead")
    return int(word)


def _joining_read(word):
    if not is_joining_word(word):
        raise NoForm("a joining is told as N:ABCD")
    number, _, figures = word.partition(":")
    return (_number_read(number), tuple([int(figure) for figure in figures]))


def _block(space, told):
    return (beside(space, ALONE), str(len(space)))


def _join(space, told):
    _, block, face, joining = told
    other, turn = joining
    return (joined(space, block, face, other=other, turn=turn), "ok")


def _part(space, told):
    _, block, face = told
    return (parted(space, block, face), "ok")


def _move(space, told):
    behind, _ = moved(space, told)
    return (behind, str(len(behind)))


def _show(space, told):
    return _on_one_line(space)


def _count(space, told):
    return _things(counted(space))


def _border(space, told):
    return _rows(border(space))


def _moves(space, told):
    return _rows(moves_of(space))


def _name(space, told):
    return _on_one_line(least_name(space))


def _corners(space, told):
    return _things(corner_words(space))


def _sound(space, told):
    return "yes" if is_sound(space) else "no"


def _turning(space, told):
    return _things(turning(space))


def _least(space, told):
    return _things([",".join([str(number) for number in numbers]) for numbers in least_surfaces(space)])


def _rooms(space, told):
    return str(len(rooms_of(space, told[1])))


def _off(space, told):
    return _things(taken_off(space))


CHANGES = {"block": _block, "join": _join, "part": _part, "split": _move, "fuse": _move, "fill": _move, "drain": _move}
QUESTIONS = {
    "show": _show, "count": _count, "border": _border, "moves": _moves, "name": _name, "corners": _corners,
    "sound": _sound, "turning": _turning, "least": _least, "rooms": _rooms, "off": _off,
}


def _on_one_line(space):
    return space_text(space).replace("\n", "/")


def _things(things):
    """Things of one word each; None are none, too."""
    return " ".join([str(thing) for thing in things]) if things else "none"


def _rows(rows):
    """Things of several words each."""
    return "; ".join([" ".join([str(part) for part in row]) for row in rows]) if rows else "none"
