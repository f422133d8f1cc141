"""What lies around corners: a triangle for each corner of a block, joined to each other as the blocks are."""

from blockrooms.cells import corners_of, edges_of, is_bent, met_at, turn_sign
from blockrooms.errors import NoCorner
from blockrooms.links import links_of, places_of, rows_of, signs_of
from blockrooms.spaces import is_below, space_of


def around(space, corner):
    """Of a corner's surroundings: points less sides plus triangles, how many borders, whether it turns."""
    whole = space_of(space)
    corners = corners_of(whole)
    if not is_below(corner, len(corners)):
        raise NoCorner("there is no such corner")
    return _told_around(whole, corners[corner])


def _told_around(space, triangles):
    points = _points_of(space, triangles)
    sides = _sides_of(space, triangles)
    turns = signs_of(_ties_of(space, triangles)) is not None
    return (len(points) - len(sides) + len(triangles), _count_borders(points, sides), turns)


def _points_of(space, triangles):
    """Rows of the triangles' points that are one, tuples (block, corner, the edge's other end)."""
    # Both ends of one edge may lie at the corner: they are points of their own, but where a bent edge makes them one.
    return rows_of({(block, corner, end): met_at(space, block, (corner, end))
                    for block, corner in triangles for end in range(4) if end != corner})


def _sides_of(space, triangles):
    """Rows of the triangles' sides that are one, tuples (block, corner, face)."""
    return rows_of({(block, corner, face): _sides_met(space[block][face], corner, face)
                    for block, corner in triangles for face in range(4) if face != corner})


def _sides_met(joining, corner, face):
    if joining is None:
        return []
    other, turn = joining
    return [(other, turn[corner], turn[face])]


def _ties_of(space, triangles):
    return {(block, corner): _ties_at(space[block], corner) for block, corner in triangles}


def _ties_at(faces, corner):
    """To which triangles a corner's one is tied, by the faces that have the corner."""
    told = []
    for face in range(4):
        if face != corner and faces[face] is not None:
            other, turn = faces[face]
            told.append(((other, turn[corner]), turn_sign(turn)))
    return told


def _count_borders(points, sides):
    """How many rings the sides make that are not joined."""
    place = places_of(points)
    pairs = []
    for row in sides:
        if len(row) == 1:
            block, corner, face = row[0]
            pairs.append([place[(block, corner, end)] for end in range(4) if end not in (corner, face)])
    return len(rows_of(links_of(pairs)))


def corner_words(space):
    """For each corner "inner", "outer" or "odd"."""
    whole = space_of(space)
    return [_word_of(_told_around(whole, triangles)) for triangles in corners_of(whole)]


def _word_of(told):
    if told == (2, 0, True):
        return "inner"
    if told == (1, 1, True):
        return "outer"
    return "odd"


def is_sound(space):
    """Whether no corner is odd and no edge bent."""
    whole = space_of(space)
    return "odd" not in corner_words(whole) and not any([is_bent(edge) for edge in edges_of(whole)])
