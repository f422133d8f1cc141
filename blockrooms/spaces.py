"""Spaces: tuples of blocks, whose faces are free or joined to another one by a turn.

Each function takes a space's lists or tuples and tells a space of its own, tuples through and through.
"""

from blockrooms.errors import NoFace, NoName, NoSpace, NoTurn


def is_whole(thing):
    """Whether it is a whole number."""
    # Python counts truths as ints, the document does not.
    return isinstance(thing, int) and not isinstance(thing, bool)


def is_listed(thing):
    """Whether it is a list or a tuple."""
    return isinstance(thing, (list, tuple))


def is_below(thing, many):
    """Whether it is one of the first whole numbers, from 0 on, as many as told."""
    return is_whole(thing) and 0 <= thing < many


def is_order(thing, many):
    """Whether it is a list of the first whole numbers, as many as told, each once."""
    # Only numbers are sorted: other things might not be compared with each other.
    return is_listed(thing) and all([is_whole(part) for part in thing]) and sorted(thing) == list(range(many))


def is_turn(thing):
    """Whether it is a turn: the four corners in some order."""
    return is_order(thing, 4)


def contrary(turn):
    """The turn that undoes a turn."""
    return tuple([turn.index(corner) for corner in range(4)])


def is_odd(turn):
    """Whether the turn is an odd one, as just those are that change the order of an odd number of pairs."""
    return len([1 for late in range(4) for early in range(late) if turn[early] > turn[late]]) % 2 == 1


def space_of(blocks):
    """The space of a list of blocks of lists."""
    if not is_listed(blocks) or not blocks:
        raise NoSpace("a space is a list of blocks, one at least")
    space = tuple([_block_of(faces, len(blocks)) for faces in blocks])
    for block in range(len(space)):
        for face in range(4):
            if not _goes_both_ways(space, block, face):
                raise NoSpace(f"block {block}, face {face}: the joining does not go both ways between two faces")
    return space


def _block_of(faces, many):
    if not is_listed(faces) or len(faces) != 4:
        raise NoSpace("a block is a list of four things, one for each face")
    return tuple([_joining_of(joining, many) for joining in faces])


def _joining_of(joining, many):
    if joining is None:
        return None
    if not is_listed(joining) or len(joining) != 2:
        raise NoSpace("a face has None, or another block's number and a turn")
    other, turn = joining
    if not is_below(other, many) or not is_turn(turn):
        raise NoSpace("a joining leads to a block's number, by a turn")
    return (other, tuple(turn))


def _goes_both_ways(space, block, face):
    joining = space[block][face]
    if joining is None:
        return True
    other, turn = joining
    across = turn[face]
    # A turn that is its own contrary would hide that the face is joined to itself.
    if (other, across) == (block, face):
        return False
    return space[other][across] == (block, contrary(turn))


def _is_face(space, block, face):
    return is_below(block, len(space)) and is_below(face, 4)


def _put(space, changes):
    """The space with other things at some faces: changes are rows (block, face, what stands there now)."""
    rows = [list(faces) for faces in space]
    for block, face, joining in changes:
        rows[block][face] = joining
    return tuple([tuple(row) for row in rows])


def joined(space, block, face, *, other, turn):
    """The space with a free face joined to face turn[face] of block other."""
    whole = space_of(space)
    if not _is_face(whole, block, face) or not is_below(other, len(whole)):
        raise NoFace("there is no such block or face")
    if whole[block][face] is not None:
        raise NoFace("the face is not free")
    if not is_turn(turn):
        raise NoTurn("a turn is the four corners in some order")
    across = turn[face]
    if whole[other][across] is not None or (other, across) == (block, face):
        raise NoFace("the other face is not free, or is the same")
    return _put(whole, [(block, face, (other, tuple(turn))), (other, across, (block, contrary(turn)))])


def parted(space, block, face):
    """The space with a joined face, and the one that it was joined to, free again."""
    whole = space_of(space)
    if not _is_face(whole, block, face):
        raise NoFace("there is no such block or face")
    if whole[block][face] is None:
        raise NoFace("the face is not joined")
    other, turn = whole[block][face]
    return _put(whole, [(block, face, None), (other, turn[face], None)])


def beside(one, other):
    """Both spaces as one, the other's blocks behind the first's."""
    first = space_of(one)
    return first + tuple([_block_behind(block, len(first)) for block in space_of(other)])


def _block_behind(block, many):
    """The block, where as many blocks stand ahead of those that it is joined to."""
    return tuple([None if joining is None else (joining[0] + many, joining[1]) for joining in block])


def renamed(space, order, turns):
    """The space whose block k is block order[k], its corner c now corner turns[k][c]."""
    whole = space_of(space)
    many = len(whole)
    if not is_order(order, many):
        raise NoName("an order is all blocks' numbers, each once")
    if not is_listed(turns) or len(turns) != many or not all([is_turn(turn) for turn in turns]):
        raise NoName("there is one turn for each block")
    return tuple([_renamed_block(whole, order, turns, place) for place in range(many)])


def _renamed_block(space, order, turns, place):
    block = space[order[place]]
    back = contrary(turns[place])
    return tuple([_renamed_joining(block[face], order, turns, back) for face in back])


def _renamed_joining(joining, order, turns, back):
    """The joining by new names, where back tells its own block's old corners by the new ones."""
    if joining is None:
        return None
    other, turn = joining
    place = order.index(other)
    return (place, tuple([turns[place][turn[corner]] for corner in back]))
