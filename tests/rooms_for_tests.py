"""Spaces and checks that several tests share."""

from itertools import permutations, product

SAME = (0, 1, 2, 3)
TURNS = list(permutations(range(4)))
LONE = (None, None, None, None)

# Things that are no whole numbers, nor lists.
ODD_THINGS = [None, True, False, 1.0, 0.0, "0", "", b"0", {}, {0: 0}, {0}, object(), int]

# One block; two faces of it joined; all four joined.
ALONE = (LONE,)
FOLDED = (((0, (1, 0, 2, 3)), (0, (1, 0, 2, 3)), None, None),)
CLOSED = (((0, (1, 2, 3, 0)), (0, (3, 0, 1, 2)), (0, (0, 2, 3, 1)), (0, (0, 3, 1, 2))),)
# Two blocks, on one face; on all faces; and unlike turns, some of them three-cycles.
PAIR = ((None, None, None, (1, (0, 2, 1, 3))), (None, None, None, (0, (0, 2, 1, 3))))
DOUBLE = tuple(tuple((1 - block, SAME) for _ in range(4)) for block in range(2))
CHAIN = (((1, (3, 1, 0, 2)), None, None, None),
         (None, (2, (1, 2, 3, 0)), None, (0, (2, 1, 3, 0))),
         ((2, (3, 0, 1, 2)), None, (1, (3, 0, 1, 2)), (2, (1, 2, 3, 0))))

SPACES = [ALONE, FOLDED, CLOSED, PAIR, DOUBLE, CHAIN]


def as_lists(thing):
    """The same, of lists through and through."""
    return [as_lists(part) for part in thing] if isinstance(thing, (list, tuple)) else thing


def all_tuples(space):
    """Whether a space is of tuples through and through, its numbers plain ints."""
    if not isinstance(space, tuple) or space == ():
        return False
    return all(type(block) is tuple and len(block) == 4 and all(map(_joining_is_told, block)) for block in space)


def _joining_is_told(joining):
    if joining is None:
        return True
    if type(joining) is not tuple or len(joining) != 2:
        return False
    other, turn = joining
    return type(other) is int and type(turn) is tuple and all(type(c) is int for c in turn)


def glueings(space):
    """What meets: a set of pairs of (block, face, corner) of joined faces, both ways."""
    met = set()
    for (block, faces), face, corner in product(enumerate(space), range(4), range(4)):
        if faces[face] is not None:
            other, turn = faces[face]
            met.add(((block, face, corner), (other, turn[face], turn[corner])))
    return met


def one_block_spaces():
    """All spaces of one block."""
    def told(free, faces):
        if not free:
            yield (tuple(faces),)
            return
        first, rest = free[0], free[1:]
        yield from told(rest, faces)
        for across in rest:
            for turn in TURNS:
                if turn[first] == across:
                    more = list(faces)
                    more[first] = (0, turn)
                    more[across] = (0, tuple(turn.index(c) for c in range(4)))
                    yield from told([f for f in rest if f != across], more)
    return list(told([0, 1, 2, 3], [None] * 4))
