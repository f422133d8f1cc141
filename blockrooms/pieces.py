"""Pieces: the triangles and quads of a surface, how they are joined, and the parts that hang together.

A piece is a tuple (block, sort, at), numbered among those of its sort in its block: triangles from their corner on,
quads from corner 0 on.
"""

from itertools import product

from blockrooms.cells import border, edges_of, faces_of, is_bent, meetings_of, met_at, turn_sign
from blockrooms.links import links_of, places_of, rows_of, signs_of
from blockrooms.numbers import SORTS, arcs_at, is_with_corner_0, quad_sort, surface_of
from blockrooms.spaces import space_of


def pieces_counted(space, numbers):
    """How many points, sides and pieces a surface has."""
    whole = space_of(space)
    return _counted(whole, surface_of(whole, numbers))


def _counted(space, numbers):
    # By the numbers alone: there may be far more pieces than could be told one by one.
    points = sum([_count_points(edge, numbers) for edge in edges_of(space)])
    sides = sum([_count_sides(face, numbers) for face in faces_of(space)])
    return (points, sides, sum(numbers))


def _count_points(edge, numbers):
    block, start, end = edge[0]
    many = _crossings(numbers, block, start, end)
    # Turned about, a bent edge's first point is its last one, and so on, and one in the middle is itself.
    return (many + 1) // 2 if is_bent(edge) else many


def _crossings(numbers, block, start, end):
    """How many pieces cross an edge of a block."""
    # At a face that has the edge, each of them has an arc around one of the edge's ends.
    face = [corner for corner in range(4) if corner not in (start, end)][0]
    return arcs_at(numbers, block, face, start) + arcs_at(numbers, block, face, end)


def _count_sides(cells, numbers):
    block, face = cells[0]
    return sum([arcs_at(numbers, block, face, corner) for corner in range(4) if corner != face])


def surface_parts(space, numbers):
    """The numbers of the parts that hang together, sorted."""
    whole = space_of(space)
    return _parts_of(whole, surface_of(whole, numbers))


def _parts_of(space, numbers):
    joints = _joints_of(space, numbers)
    rows = rows_of({piece: [joint[0] for joint in joints[piece]] for piece in joints})
    return sorted([_numbers_of(row, len(numbers)) for row in rows])


def _numbers_of(pieces, many):
    numbers = [0] * many
    for block, sort, _ in pieces:
        numbers[SORTS * block + sort] += 1
    return numbers


def _joints_of(space, numbers):
    """To what each piece is joined: a dict of lists of tuples (other piece, tie of their sides, tie of directions).

    Ties are those of links. A piece's side 1 is the one towards its corner, of a quad towards corner 0; its direction 1
    goes left around, seen from there, where left and right are told by the block's corners.
    """
    # Two pieces that go left, seen from sides that meet, go through the side that joins them in contrary directions;
    # but an even turn has left and right changed.
    joints = {(place // SORTS, place % SORTS, at): []
              for place, many in enumerate(numbers) for at in range(many)}
    for here, there in meetings_of(space):
        block, face, corner = here
        for piece, other in zip(_pieces_at(numbers, *here), _pieces_at(numbers, *there)):
            sides = _side_towards(piece, corner) * _side_towards(other, there[2])
            joints[piece].append((other, sides, sides * turn_sign(space[block][face][1])))
    return joints


def _pieces_at(numbers, block, face, corner):
    """The pieces whose arcs lie at a face around its corner, from the corner on."""
    sort = quad_sort(corner, face)
    triangles = [(block, corner, at) for at in range(numbers[SORTS * block + corner])]
    quads = [(block, sort, at) for at in range(numbers[SORTS * block + sort])]
    return triangles + (quads if is_with_corner_0(sort, corner) else quads[::-1])


def _side_towards(piece, corner):
    """Which of its sides a piece has towards a corner that it has an arc around."""
    sort = piece[1]
    return 1 if sort == corner or is_with_corner_0(sort, corner) else -1


def part_words(space, numbers):
    """Of each part: points less sides plus pieces, how many borders, whether it turns, whether it has two sides."""
    whole = space_of(space)
    # Alone, a part is joined as it is among the others: where some arcs of a row are left out on both sides, the rest
    # are still joined in their order.
    return [_words_of(whole, part) for part in _parts_of(whole, surface_of(whole, numbers))]


def _words_of(space, part):
    points, sides, pieces = _counted(space, part)
    joints = _joints_of(space, part)
    two_sides = signs_of({piece: [(joint[0], joint[1]) for joint in joints[piece]] for piece in joints}) is not None
    turns = signs_of({piece: [(joint[0], joint[2]) for joint in joints[piece]] for piece in joints}) is not None
    return (points - sides + pieces, _count_borders(space, part), turns, two_sides)


def _count_borders(space, numbers):
    """How many rings the sides make that are not joined."""
    place = places_of(_points_of(space, numbers))
    pairs = []
    for block, face in border(space):
        for corner in range(4):
            if corner != face:
                ends = [end for end in range(4) if end not in (corner, face)]
                for at in range(arcs_at(numbers, block, face, corner)):
                    pairs.append([place[(block, corner, end, at)] for end in ends])
    return len(rows_of(links_of(pairs)))


def _points_of(space, numbers):
    """Rows of the points that are one: tuples (block, start, end, at), the at-th one on an edge from its start on.

    Each point stands there in both directions of its edge.
    """
    links = {}
    for block, start, end in product(range(len(space)), range(4), range(4)):
        if start != end:
            many = _crossings(numbers, block, start, end)
            met = met_at(space, block, (start, end))
            for at in range(many):
                links[(block, start, end, at)] = [(block, end, start, many - 1 - at)] + [spot + (at,) for spot in met]
    return rows_of(links)
