"""The refusals: each stands under RoomError, and under no other one of them."""


class RoomError(ValueError):
    """Any refusal."""


class NoSpace(RoomError):
    """What was handed in, or what a text writes, is no space."""


class NoFace(RoomError):
    """A block or a face is none, or the face is not free, or not joined, as it has to be."""


class NoTurn(RoomError):
    """What should be a turn is none."""


class NoName(RoomError):
    """What should rename a space, an order and turns, does not."""


class NoLine(RoomError):
    """A line of a text has no form; its field line tells which, from 1 on."""

    def __init__(self, line):
        super().__init__(f"line {line} has no form")
        self.line = line


class NoCorner(RoomError):
    """What should be a corner is none."""


class NoNumbers(RoomError):
    """What should be a surface's numbers are none."""


class NoSurface(RoomError):
    """The numbers are no surface."""


class NoMove(RoomError):
    """What should be a move is none, or can't be done."""


class NoForm(RoomError):
    """A row that a desk is told has no form."""


class NoneYet(RoomError):
    """There is nothing left to undo."""
