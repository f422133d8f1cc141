"""Moves: some blocks of a space go, and others come, around which the same faces lie.

Where a move is done, corners have marks: 0 to 3 are those of one block, 4 is one more. Of "drain" 4 is the corner that
goes, and each of those around has the place of that one of the four blocks that lacks it.
"""

from itertools import combinations

from blockrooms.errors import NoMove
from blockrooms.spaces import contrary, is_below, is_listed, space_of

CORNERS = (0, 1, 2, 3)
MORE = 4
SIZES = {"split": 3, "fuse": 4, "fill": 2, "drain": 3}
# By how many blocks a space has more behind a move.
GROWTH = {"split": 1, "fuse": -1, "fill": 3, "drain": -3}


def moves_of(space):
    """All moves that can be done, under all of their names, sorted."""
    return moves_in(space_of(space))


def moves_in(space):
    """The same, of what is known to be a space."""
    return sorted([move for move in _names(len(space)) if _blocks_changed(space, move) is not None])


def _names(many):
    """All moves of a space of so many blocks that have the form of one."""
    told = []
    for block in range(many):
        told.append(("fill", block))
        for corner in CORNERS:
            told.extend([("split", block, corner), ("drain", block, corner)])
        for start, end in combinations(range(4), 2):
            told.append(("fuse", block, start, end))
    return told


def moved(space, move):
    """The space behind a move, and a move by which a space comes that is alike the first one."""
    whole = space_of(space)
    if not _has_form(whole, move) or _blocks_changed(whole, move) is None:
        raise NoMove("it is no move, or it can't be done")
    return (done(whole, move), _move_back(whole, move))


def done(space, move):
    """The space behind a move that is known to be one that can be done."""
    going, coming = _blocks_changed(space, move)
    return _changed(space, going, coming)


def _has_form(space, thing):
    if not is_listed(thing) or len(thing) == 0 or not isinstance(thing[0], str) or thing[0] not in SIZES:
        return False
    if len(thing) != SIZES[thing[0]] or not is_below(thing[1], len(space)):
        return False
    return all([is_below(corner, 4) for corner in thing[2:]])


def _move_back(space, move):
    # The blocks that come stand behind the others, the first one where it is told here.
    first = len(space) - len(blocks_going(space, move))
    if move[0] == "split":
        return ("fuse", first, 0, 1)
    if move[0] == "fuse":
        return ("split", first, 0)
    if move[0] == "fill":
        return ("drain", first, 0)
    return ("fill", first)


def blocks_going(space, move):
    """The blocks that a move takes."""
    return list(_blocks_changed(space, move)[0])


def _blocks_changed(space, move):
    """The blocks that go, a dict of their corners' marks, and the marks of those that come; None where it can't be."""
    change = CHANGES[move[0]]
    return change(space, move)


def _split(space, move):
    _, block, face = move
    joining = space[block][face]
    if joining is None or joining[0] == block:
        return None
    other, turn = joining
    around = _others(face)
    coming = [(face, MORE) + tuple([corner for corner in around if corner != left]) for left in around]
    return ({block: CORNERS, other: _marks_across(turn, face)}, coming)


def _fuse(space, move):
    _, block, start, end = move
    if start >= end:
        return None
    low, high = _others(start, end)
    if space[block][low] is None or space[block][high] is None:
        return None
    going = {block: CORNERS}
    for face in (low, high):
        other, turn = space[block][face]
        going[other] = _marks_across(turn, face)
    # Three blocks that meet by the marks make a ring around the edge, so that no other block, nor the edge turned
    # about, is met there.
    if len(going) != 3 or not _meet_by_marks(space, going):
        return None
    return (going, [(start, low, high, MORE), (end, low, high, MORE)])


def _fill(space, move):
    block = move[1]
    return ({block: CORNERS}, [tuple([MORE if mark == corner else mark for mark in CORNERS]) for corner in CORNERS])


def _drain(space, move):
    _, block, corner = move
    within = {block: corner}
    for face in _others(corner):
        if space[block][face] is None:
            return None
        other, turn = space[block][face]
        within[other] = turn[corner]
    order = sorted(within)
    going = {one: _marks_around(space[one], order, within[one]) for one in order}
    # Four blocks each of which meets each other one by the marks have four corners around in all: what lies around the
    # one within is a ball's rim.
    if len(going) != 4 or not all([_are_all_but_one(going[order[place]], place) for place in range(4)]):
        return None
    if not _meet_by_marks(space, going):
        return None
    return (going, [CORNERS])


CHANGES = {"split": _split, "fuse": _fuse, "fill": _fill, "drain": _drain}


def _others(*corners):
    """A block's other corners, rising."""
    return [corner for corner in CORNERS if corner not in corners]


def _marks_across(turn, face):
    """The marks of the block that is joined, by the turn, to the face of one whose corners are marked by themselves."""
    return tuple([MORE if corner == face else corner for corner in contrary(turn)])


def _marks_around(faces, order, within):
    """The marks of one of four blocks, which stand there in their order, around a corner within; -1 is no mark."""
    marks = []
    for corner in CORNERS:
        joining = faces[corner]
        if corner == within:
            marks.append(MORE)
        elif joining is None or joining[0] not in order:
            marks.append(-1)
        else:
            marks.append(order.index(joining[0]))
    return tuple(marks)


def _are_all_but_one(marks, place):
    return sorted(marks) == _others(place) + [MORE]


def _meet_by_marks(space, going):
    """Whether faces of the blocks that have the same marks are joined, each mark to itself."""
    for cells in _by_marks(list(going.items())).values():
        if len(cells) == 2:
            one, other = cells
            if space[one[0]][one[2]] != _joining_between(one, other):
                return False
    return True


def _by_marks(blocks):
    """The faces of blocks, told with their marks, by the three marks of each: lists of tuples (block, marks, face)."""
    told = {}
    for block, marks in blocks:
        for face in CORNERS:
            told.setdefault(_marks_of(marks, face), []).append((block, marks, face))
    return told


def _marks_of(marks, face):
    return tuple(sorted([marks[corner] for corner in _others(face)]))


def _joining_between(here, there):
    """How a face is joined to another one, each mark to itself."""
    _, marks, face = here
    other, others, across = there
    return (other, tuple([across if corner == face else others.index(marks[corner]) for corner in CORNERS]))


def _changed(space, going, coming):
    """The space without the blocks that go, and with those that come behind the others."""
    stay = [block for block in range(len(space)) if block not in going]
    cells = _by_marks([(len(stay) + at, marks) for at, marks in enumerate(coming)])
    rows = [[None] * 4 for _ in range(len(stay) + len(coming))]
    for pair in cells.values():
        if len(pair) == 2:
            one, other = pair
            rows[one[0]][one[2]] = _joining_between(one, other)
            rows[other[0]][other[2]] = _joining_between(other, one)
    spots = _new_spots(stay, going, cells)
    for (block, face), (place, names) in spots.items():
        if space[block][face] is not None:
            other, turn = space[block][face]
            there, others = spots[(other, turn[face])]
            rows[place][names[face]] = (there, tuple([others[turn[corner]] for corner in contrary(names)]))
    return tuple([tuple(row) for row in rows])


def _new_spots(stay, going, cells):
    """What each face (block, face) becomes that is left: a tuple (new block, what the block's corners are there)."""
    spots = {(block, face): (place, CORNERS) for place, block in enumerate(stay) for face in CORNERS}
    for block in going:
        for face in CORNERS:
            # No block that comes has the marks of a face that goes.
            marks = _marks_of(going[block], face)
            if marks in cells:
                spots[(block, face)] = _joining_between((block, going[block], face), cells[marks][0])
    return spots
