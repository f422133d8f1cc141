"""Cells: corners, edges and faces of a space, its border, its parts, and how its blocks turn."""

from blockrooms.links import rows_of, signs_of
from blockrooms.spaces import is_odd, space_of


def met_at(space, block, spots):
    """What some corners of a block, its spots, are one with: a tuple (other block, its corners) for each joining.

    Just the faces that have all of the spots join them.
    """
    told = []
    for face in range(4):
        joining = space[block][face]
        if joining is not None and face not in spots:
            other, turn = joining
            told.append((other,) + tuple([turn[spot] for spot in spots]))
    return told


def meetings_of(space):
    """Where joined faces meet, for each of their corners, from both sides: tuples (here, there).

    Both of them are tuples (block, face, corner).
    """
    return [((block, face, corner), (joining[0], joining[1][face], joining[1][corner]))
            for block, faces in enumerate(space) for face, joining in enumerate(faces) if joining is not None
            for corner in range(4) if corner != face]


def turn_sign(turn):
    """What two blocks that are joined by the turn have to each other: 1, the same sign, or -1, contrary ones."""
    return 1 if is_odd(turn) else -1


def corners_of(space):
    """The corners, each a list of those of blocks, tuples (block, corner)."""
    whole = space_of(space)
    return rows_of({(block, corner): met_at(whole, block, (corner,))
                    for block in range(len(whole)) for corner in range(4)})


def edges_of(space):
    """The edges, each a list of those of blocks in one direction, or in both if bent: tuples (block, from, to)."""
    whole = space_of(space)
    rows = rows_of({(block, start, end): met_at(whole, block, (start, end))
                    for block in range(len(whole)) for start in range(4) for end in range(4) if start != end})
    told = []
    # An edge that is not bent has two rows, of contrary directions; that whose first one goes up stands ahead.
    gone = set()
    for row in rows:
        if row[0] not in gone:
            told.append(row)
            for block, start, end in row:
                gone.add((block, end, start))
    return told


def is_bent(edge):
    """Whether an edge, a row of those of a space, is one with itself turned about."""
    block, start, end = edge[0]
    return (block, end, start) in edge


def faces_of(space):
    """The faces, each a list of the one or the two of blocks, tuples (block, face)."""
    whole = space_of(space)
    return rows_of({(block, face): _faces_met(whole[block][face], face)
                    for block in range(len(whole)) for face in range(4)})


def _faces_met(joining, face):
    if joining is None:
        return []
    other, turn = joining
    return [(other, turn[face])]


def counted(space):
    """How many corners, edges, faces and blocks there are."""
    whole = space_of(space)
    return (len(corners_of(whole)), len(edges_of(whole)), len(faces_of(whole)), len(whole))


def border(space):
    """The faces of blocks that are not joined, tuples (block, face)."""
    whole = space_of(space)
    return [(block, face) for block in range(len(whole)) for face in range(4) if whole[block][face] is None]


def parts_of(space):
    """The lists of the blocks that hang together."""
    whole = space_of(space)
    return rows_of({block: [joining[0] for joining in whole[block] if joining is not None]
                    for block in range(len(whole))})


def turning(space):
    """For each block 1 or -1, by the turns of the joinings; None where there is no such list."""
    whole = space_of(space)
    signs = signs_of({block: [(joining[0], turn_sign(joining[1])) for joining in whole[block] if joining is not None]
                      for block in range(len(whole))})
    if signs is None:
        return None
    return [signs[block] for block in range(len(whole))]
