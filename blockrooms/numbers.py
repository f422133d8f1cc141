"""Surfaces as numbers: how many triangles and quads of each sort lie in each block.

Each block has seven: of triangles, sort c around corner c, and of quads, sort 3 + k between corners 0, k and the rest.
"""

from blockrooms.cells import corners_of
from blockrooms.errors import NoCorner, NoFace, NoNumbers
from blockrooms.spaces import is_below, is_listed, is_whole, space_of

SORTS = 7
QUADS = (4, 5, 6)


def are_numbers(thing):
    """Whether it is a list of seven whole numbers of 0 or more for each block, one block at least."""
    if not is_listed(thing) or len(thing) == 0 or len(thing) % SORTS != 0:
        return False
    return all([is_whole(number) and number >= 0 for number in thing])


def are_numbers_of(space, thing):
    """Whether it is such a list, for just the space's blocks."""
    return are_numbers(thing) and len(thing) == SORTS * len(space)


def _check_numbers(space, numbers):
    if not are_numbers_of(space, numbers):
        raise NoNumbers("a surface has seven whole numbers of 0 or more for each block of the space")


def arcs(numbers, block, face, *, corner):
    """How many arcs lie at a block's face around its corner."""
    if not are_numbers(numbers):
        raise NoNumbers("a surface has seven whole numbers of 0 or more for each block, one block at least")
    if not is_below(block, len(numbers) // SORTS) or not is_below(face, 4):
        raise NoFace("there is no such block or face")
    if not is_below(corner, 4) or corner == face:
        raise NoCorner("the face has no such corner")
    return _arcs_at(numbers, block, face, corner)


def _arcs_at(numbers, block, face, corner):
    first = SORTS * block
    return numbers[first + corner] + numbers[first + quad_sort(corner, face)]


def quad_sort(one, other):
    """The sort of the quads that have two unlike corners on the same side.

    At the face that lacks the other one, they part the one from the face's other two.
    """
    # They have 0 and k on one side: either just these two, or the two that are left of 0 + 1 + 2 + 3.
    if one == 0 or other == 0:
        return 3 + one + other
    return 3 + 6 - one - other


def fits(space, numbers):
    """Whether as many arcs lie on both sides of each joined face, around each of its corners."""
    whole = space_of(space)
    _check_numbers(whole, numbers)
    return all([_fits_at(whole, numbers, block, face) for block in range(len(whole)) for face in range(4)])


def _fits_at(space, numbers, block, face):
    joining = space[block][face]
    if joining is None:
        return True
    other, turn = joining
    for corner in range(4):
        if corner != face:
            there = _arcs_at(numbers, other, turn[face], turn[corner])
            if _arcs_at(numbers, block, face, corner) != there:
                return False
    return True


def is_surface(space, numbers):
    """Whether the numbers fit, and no block has two sorts of quads."""
    whole = space_of(space)
    return fits(whole, numbers) and all([_quads_agree(numbers, block) for block in range(len(whole))])


def _quads_agree(numbers, block):
    return len([sort for sort in QUADS if numbers[SORTS * block + sort] > 0]) <= 1


def go_together(space, one, other):
    """Whether both are surfaces, and their sum, too."""
    whole = space_of(space)
    # Both are asked in any case: the other one may be none, and be refused, where the first is no surface.
    told = [is_surface(whole, numbers) for numbers in (one, other)]
    return all(told) and is_surface(whole, sum_of(one, other))


def corner_surface(space, corner):
    """The surface around a corner: one triangle for each corner of a block that belongs to it."""
    whole = space_of(space)
    corners = corners_of(whole)
    if not is_below(corner, len(corners)):
        raise NoCorner("there is no such corner")
    numbers = [0] * (SORTS * len(whole))
    for block, sort in corners[corner]:
        numbers[SORTS * block + sort] = 1
    return numbers


def sum_of(one, other):
    """The sum of two surfaces, number by number."""
    if not are_numbers(one) or not are_numbers(other):
        raise NoNumbers("a surface has seven whole numbers of 0 or more for each block, one block at least")
    if len(one) != len(other):
        raise NoNumbers("two surfaces of one space have as many numbers")
    return [first + second for first, second in zip(one, other)]
