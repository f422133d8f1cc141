"""Spaces and checks that several tests share."""

from functools import cache
from itertools import permutations, product

SAME = (0, 1, 2, 3)
TURNS = list(permutations(range(4)))
LONE = (None, None, None, None)

# Things that are no whole numbers, nor lists.
ODD_THINGS = [None, True, False, 1.0, 0.0, "0", "", b"0", {}, {0: 0}, {0}, object(), int]

# One block; two faces of it joined; all four joined.
ALONE = (LONE,)
FOLDED = (((0, (1, 0, 2, 3)), (0, (1, 0, 2, 3)), None, None),)
CLOSED = (((0, (1, 2, 3, 0)), (0, (3, 0, 1, 2)), (0, (0, 2, 3, 1)), (0, (0, 3, 1, 2))),)
# Two blocks, on one face; on all faces; and unlike turns, some of them three-cycles.
PAIR = ((None, None, None, (1, (0, 2, 1, 3))), (None, None, None, (0, (0, 2, 1, 3))))
DOUBLE = tuple(tuple((1 - block, SAME) for _ in range(4)) for block in range(2))
CHAIN = (((1, (3, 1, 0, 2)), None, None, None),
         (None, (2, (1, 2, 3, 0)), None, (0, (2, 1, 3, 0))),
         ((2, (3, 0, 1, 2)), None, (1, (3, 0, 1, 2)), (2, (1, 2, 3, 0))))

SPACES = [ALONE, FOLDED, CLOSED, PAIR, DOUBLE, CHAIN]

# A ball: four blocks around a new corner within a block; block c has the new one in the place of corner c.
BALL = tuple(tuple(None if f == c else (f, tuple({c: f, f: c}.get(k, k) for k in range(4))) for f in range(4))
             for c in range(4))
# One corner each, around it a bottle that does not turn, and a torus; no edge is bent.
BOTTLE = (((0, (1, 2, 0, 3)), (0, (2, 0, 1, 3)), (0, (0, 2, 3, 1)), (0, (0, 3, 1, 2))),)
TORUS = (((1, (0, 1, 3, 2)), (1, (1, 2, 3, 0)), (1, (2, 3, 1, 0)), (1, (2, 1, 0, 3))),
         ((0, (0, 1, 3, 2)), (0, (3, 2, 0, 1)), (0, (3, 0, 1, 2)), (0, (2, 1, 0, 3))))
# Corner 1 of it lies in a ring of triangles that is twisted; corner 1 of the other one in one that is not.
TWISTED = (((0, (1, 2, 0, 3)), (0, (2, 0, 1, 3)), None, None),)
RING = ((None, None, (1, (0, 3, 2, 1)), (1, (2, 3, 1, 0))), ((0, (3, 2, 0, 1)), None, (0, (0, 3, 2, 1)), None))
# No corner is odd, but an edge is bent: outer ones alone; inner ones alone.
BENT = ((None, None, (0, (1, 0, 3, 2)), (0, (1, 0, 3, 2))),)
BENT_WITHIN = (((0, (1, 0, 3, 2)), (0, (1, 0, 3, 2)), (0, (1, 0, 3, 2)), (0, (1, 0, 3, 2))),)
# Edge 0 to 2 is one with 2 to 1: the first ones of both directions go up.
ASLANT = (((0, (3, 2, 0, 1)), None, None, (0, (2, 3, 1, 0))),)

MORE_SPACES = [BALL, BOTTLE, TORUS, TWISTED, RING, BENT, BENT_WITHIN, ASLANT]


def as_lists(thing):
    """The same, of lists through and through."""
    return [as_lists(part) for part in thing] if isinstance(thing, (list, tuple)) else thing


def all_tuples(space):
    """Whether a space is of tuples through and through, its numbers plain ints."""
    if not isinstance(space, tuple) or space == ():
        return False
    return all(type(block) is tuple and len(block) == 4 and all(map(_joining_is_told, block)) for block in space)


def _joining_is_told(joining):
    if joining is None:
        return True
    if type(joining) is not tuple or len(joining) != 2:
        return False
    other, turn = joining
    return type(other) is int and type(turn) is tuple and all(type(c) is int for c in turn)


def place(space, block, corner):
    """The place of a block's corner among the space's corners, by merging alone."""
    return [(block, corner) in row for row in merged_corners(space)].index(True)


def merged(things, pairs):
    """Lots of things, those of a pair in one lot, each sorted, by their first ones."""
    lot = {thing: [thing] for thing in things}
    for one, other in pairs:
        if lot[one] is not lot[other]:
            lot[one] += lot[other]
            for thing in lot[other]:
                lot[thing] = lot[one]
    return sorted({id(row): sorted(row) for row in lot.values()}.values())


def merged_corners(space):
    """The space's corners, by merging."""
    return merged(product(range(len(space)), range(4)),
                  [((b, c), (o, d)) for (b, f, c), (o, _, d) in glueings(space) if c != f])


def merged_edges(space):
    """The edges, by merging those of blocks in one direction; each row led by the least of all that go up."""
    lots = merged([(b, *ends) for b in range(len(space)) for ends in permutations(range(4), 2)], _edge_pairs(space))
    told, named = [], set()
    for up in product(range(len(space)), range(4), range(4)):
        if up[1] < up[2] and up not in named:
            row = [row for row in lots if up in row][0]
            told.append(row)
            named.update(row)
            named.update((b, end, start) for b, start, end in row)
    return told


def _edge_pairs(space):
    met = glueings(space)
    for (b, f, c), (o, g, d) in met:
        for (b2, f2, c2), (o2, g2, d2) in met:
            if (b, f, o, g) == (b2, f2, o2, g2) and c != c2 and f not in (c, c2):
                yield (b, c, c2), (o, d, d2)


def turn_is_odd(turn):
    """Whether a turn is an odd one, by the rings that it moves corners in."""
    rings = merged(range(4), [(c, turn[c]) for c in range(4)])
    return len(rings) % 2 == 1


@cache
def many_spaces():
    """All of one block, and spaces of two to four blocks: always the same ones, by a fixed row of numbers.

    The turns of half of those are odd ones alone, so that more of them turn.
    """
    return SPACES + MORE_SPACES + one_block_spaces() + [_some_space(seed) for seed in range(240)]


def _some_space(seed):
    many, joinings = 2 + seed % 3, 1 + seed // 3 % (2 * (2 + seed % 3))
    blocks = [[None] * 4 for _ in range(many)]
    free = list(product(range(many), range(4)))
    number = 7919 * seed + 1
    for _ in range(joinings):
        number = (number * 1103515245 + 12345) % 2 ** 31
        block, face = free.pop((number >> 8) % len(free))
        other, across = free.pop((number >> 16) % len(free))
        turns = [turn for turn in TURNS if turn[face] == across and (seed < 120 or turn_is_odd(turn))]
        turn = turns[(number >> 4) % len(turns)]
        blocks[block][face] = (other, turn)
        blocks[other][across] = (block, tuple(turn.index(c) for c in range(4)))
    return tuple(tuple(block) for block in blocks)


def glueings(space):
    """What meets: a set of pairs of (block, face, corner) of joined faces, both ways."""
    met = set()
    for (block, faces), face, corner in product(enumerate(space), range(4), range(4)):
        if faces[face] is not None:
            other, turn = faces[face]
            met.add(((block, face, corner), (other, turn[face], turn[corner])))
    return met


def one_block_spaces():
    """All spaces of one block."""
    def told(free, faces):
        if not free:
            yield (tuple(faces),)
            return
        first, rest = free[0], free[1:]
        yield from told(rest, faces)
        for across in rest:
            for turn in TURNS:
                if turn[first] == across:
                    more = list(faces)
                    more[first] = (0, turn)
                    more[across] = (0, tuple(turn.index(c) for c in range(4)))
                    yield from told([f for f in rest if f != across], more)
    return list(told([0, 1, 2, 3], [None] * 4))
