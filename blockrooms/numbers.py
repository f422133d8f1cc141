"""Surfaces as numbers: how many triangles and quads of each sort lie in each block.

Each block has seven: of triangles, sort c around corner c, and of quads, sort 3 + k between corners 0, k and the rest.
"""

from blockrooms.cells import corners_of, meetings_of
from blockrooms.errors import NoCorner, NoFace, NoNumbers, NoSurface
from blockrooms.spaces import is_below, is_listed, is_whole, space_of

SORTS = 7
QUADS = (4, 5, 6)


def are_numbers(thing):
    """Whether it is a list of seven whole numbers of 0 or more for each block, one block at least."""
    if not is_listed(thing) or len(thing) == 0 or len(thing) % SORTS != 0:
        return False
    return all([is_whole(number) and number >= 0 for number in thing])


def are_numbers_of(space, thing):
    """Whether it is such a list, for just the space's blocks."""
    return are_numbers(thing) and len(thing) == SORTS * len(space)


def _check_numbers(space, numbers):
    if not are_numbers_of(space, numbers):
        raise NoNumbers("a surface has seven whole numbers of 0 or more for each block of the space")


def arcs(numbers, block, face, *, corner):
    """How many arcs lie at a block's face around its corner."""
    if not are_numbers(numbers):
        raise NoNumbers("a surface has seven whole numbers of 0 or more for each block, one block at least")
    if not is_below(block, len(numbers) // SORTS) or not is_below(face, 4):
        raise NoFace("there is no such block or face")
    if not is_below(corner, 4) or corner == face:
        raise NoCorner("the face has no such corner")
    return arcs_at(numbers, block, face, corner)


def arcs_at(numbers, block, face, corner):
    """How many arcs lie at a face around one of its corners, all of them known to be there."""
    first = SORTS * block
    return numbers[first + corner] + numbers[first + quad_sort(corner, face)]


def quad_sort(one, other):
    """The sort of the quads that have two unlike corners on the same side.

    At the face that lacks the other one, they part the one from the face's other two.
    """
    # They have 0 and k on one side: either just these two, or the two that are left of 0 + 1 + 2 + 3.
    if one == 0 or other == 0:
        return 3 + one + other
    return 3 + 6 - one - other


def is_with_corner_0(sort, corner):
    """Whether the quads of a sort have the corner on the same side as corner 0."""
    return corner in (0, sort - 3)


def fits(space, numbers):
    """Whether as many arcs lie on both sides of each joined face, around each of its corners."""
    whole = space_of(space)
    _check_numbers(whole, numbers)
    return all([arcs_at(numbers, *here) == arcs_at(numbers, *there) for here, there in meetings_of(whole)])


def is_surface(space, numbers):
    """Whether the numbers fit, and no block has two sorts of quads."""
    return fits(space, numbers) and quads_agree(numbers)


def quads_agree(numbers):
    """Whether no block has two sorts of quads."""
    return all([_sorts_of_quads(numbers, first) <= 1 for first in range(0, len(numbers), SORTS)])


def _sorts_of_quads(numbers, first):
    return len([sort for sort in QUADS if numbers[first + sort] > 0])


def surface_of(space, numbers):
    """A list of its own of the numbers of a space's surface."""
    if not are_numbers_of(space, numbers) or not is_surface(space, numbers):
        raise NoSurface("the numbers are no surface of the space")
    return list(numbers)


def go_together(space, one, other):
    """Whether both are surfaces, and their sum, too."""
    whole = space_of(space)
    # Both are asked in any case: the other one may be none, and be refused, where the first is no surface.
    told = [is_surface(whole, numbers) for numbers in (one, other)]
    return all(told) and is_surface(whole, sum_of(one, other))


def corner_surface(space, corner):
    """The surface around a corner: one triangle for each corner of a block that belongs to it."""
    whole = space_of(space)
    corners = corners_of(whole)
    if not is_below(corner, len(corners)):
        raise NoCorner("there is no such corner")
    numbers = [0] * (SORTS * len(whole))
    for block, sort in corners[corner]:
        numbers[SORTS * block + sort] = 1
    return numbers


def sum_of(one, other):
    """The sum of two surfaces, number by number."""
    if not are_numbers(one) or not are_numbers(other):
        raise NoNumbers("a surface has seven whole numbers of 0 or more for each block, one block at least")
    if len(one) != len(other):
        raise NoNumbers("two surfaces of one space have as many numbers")
    return [first + second for first, second in zip(one, other)]
