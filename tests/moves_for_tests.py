"""Spaces reached by moves, and moves done by flags, that several tests share."""

from functools import cache
from itertools import combinations, product

from blockrooms.around import corner_words
from blockrooms.cells import corners_of, edges_of
from blockrooms.moves import moved, moves_of
from blockrooms.spaces import beside, joined
from rooms_for_tests import (ALONE, ASLANT, BALL, BENT, CHAIN, DOUBLE, FOLDED, LONE, MORE_SPACES, PAIR, RING, SAME,
                             SPACES, TORUS, glueings)

ROWS = {"split": 1, "fuse": -1, "fill": 3, "drain": -3}
# A fan of four blocks around an edge, joined to a ring; and three around one.
FOUR_AROUND = tuple(((None, None, ((b + 1) % 4, (0, 1, 3, 2)), ((b + 3) % 4, (0, 1, 3, 2))) for b in range(4)))
THREE_AROUND = tuple(((None, None, ((b + 1) % 3, (0, 1, 3, 2)), ((b + 2) % 3, (0, 1, 3, 2))) for b in range(3)))


def walked(space, seed, steps, most):
    """A space to which some moves lead, always the same ones."""
    number = 9001 * seed + 1
    for _ in range(steps):
        number = (number * 1103515245 + 12345) % 2 ** 31
        names = [move for move in moves_of(space) if len(space) + ROWS[move[0]] <= most]
        space = moved(space, names[(number >> 8) % len(names)])[0] if names else space
    return space


@cache
def reached_spaces():
    """Spaces of up to seven blocks that moves lead to."""
    bases = SPACES + MORE_SPACES + [beside(PAIR, ALONE), beside(FOLDED, FOLDED), FOUR_AROUND, THREE_AROUND]
    return [walked(space, at + 31 * steps, steps, 7) for at, space in enumerate(bases) for steps in (1, 3, 5)]


def four_that_meet():
    """Four blocks around a corner, each two joined by one face there, in all ways; around it lies not always a ball."""
    told = []
    for swaps in product((False, True), repeat=6):
        space = (LONE,) * 4
        for (one, other), swap in zip(combinations(range(4), 2), swaps):
            # Each block's corner is 0; its face k + 1 leads to the k-th of the others.
            face, across = 1 + other - (other > one), 1 + one - (one > other)
            low, high = sorted({1, 2, 3} - {across})[::-1 if swap else 1]
            first, last = sorted({1, 2, 3} - {face})
            turn = {0: 0, face: across, first: low, last: high}
            space = joined(space, one, face, other=other, turn=[turn[corner] for corner in range(4)])
        told.append(space)
    return told


def closed_ball_pair():
    """Two balls of four blocks each, joined along their whole rims: a space without a border."""
    space = beside(BALL, BALL)
    for block in range(4):
        space = joined(space, block, block, other=4 + block, turn=SAME)
    return space


@cache
def spaces_with_moves():
    """Spaces in which moves of all kinds can be done, and such where blocks are joined by several faces."""
    fans = [FOUR_AROUND, THREE_AROUND, closed_ball_pair()]
    parts = [beside(RING, BALL), beside(ASLANT, TORUS), (LONE,) * 3]
    return SPACES + MORE_SPACES + fans + four_that_meet()[::7] + reached_spaces() + parts


def can_be_done(space, move):
    """Whether a move can be done, by the document's words."""
    if move[0] == "fill":
        return True
    if move[0] == "split":
        joining = space[move[1]][move[2]]
        return joining is not None and joining[0] != move[1]
    if move[0] == "fuse":
        return move[2] < move[3] and _edge_fuses(space, *move[1:])
    return _corner_drains(space, *move[1:])


def _edge_fuses(space, block, start, end):
    [row] = [row for row in edges_of(space) if (block, start, end) in row or (block, end, start) in row]
    if (block, start, end) in row and (block, end, start) in row:
        return False
    faces = [space[b][f] for b, i, j in row for f in {0, 1, 2, 3} - {i, j}]
    return len(row) == 3 and len({b for b, _, _ in row}) == 3 and None not in faces


def _corner_drains(space, block, corner):
    [place] = [at for at, row in enumerate(corners_of(space)) if (block, corner) in row]
    row = corners_of(space)[place]
    if corner_words(space)[place] != "inner" or len(row) != 4 or len({b for b, _ in row}) != 4:
        return False
    for (b, c), (o, d) in combinations(row, 2):
        there = [f for f in range(4) if f != c and space[b][f] is not None and space[b][f][0] == o
                 and space[b][f][1][c] == d]
        if len(there) != 1:
            return False
    return True


def all_names(many):
    """All tuples that have the form of a move, or nearly so."""
    for block in range(many):
        yield "fill", block
        for corner in range(4):
            yield "split", block, corner
            yield "drain", block, corner
            for other in range(4):
                yield "fuse", block, corner, other


def named_blocks(space, move):
    """The corners' names of the blocks that go, and of those that come, all of them unlike where corners are."""
    word, block = move[:2]
    if word == "fill":
        return {block: "0123"}, ["x123", "0x23", "01x3", "012x"]
    if word == "split":
        other, turn = space[block][move[2]]
        names, apex = {block: "0123"}, str(move[2])
        names[other] = _pulled("0123", turn, move[2], "x")
        left = "0123".replace(apex, "")
        return names, [apex + "x" + left.replace(corner, "") for corner in left]
    if word == "fuse":
        start, end = map(str, move[2:])
        low, high = sorted(set("0123") - {start, end})
        names = {block: "0123"}
        for face in (low, high):
            other, turn = space[block][int(face)]
            names[other] = _pulled("0123", turn, int(face), "x")
        return names, [start + low + high + "x", end + low + high + "x"]
    return _drained(space, *move[1:])


def _pulled(names, turn, face, more):
    """The names of the block across a face, where its own corner has a name of its own."""
    told = [more] * 4
    for corner in range(4):
        if corner != face:
            told[turn[corner]] = names[corner]
    return "".join(told)


def _drained(space, block, corner):
    [row] = [row for row in corners_of(space) if (block, corner) in row]
    blocks = [b for b, _ in row]
    names = {}
    for b, c in row:
        names[b] = "".join("x" if d == c else str(blocks.index(space[b][d][0])) for d in range(4))
    return names, ["0123"]


def flags_behind(space, move):
    """What meets in the space behind a move: pairs of (block, face, corner), by the names of corners."""
    going, coming = named_blocks(space, move)
    stay = [block for block in range(len(space)) if block not in going]
    met = set()
    for here, there in glueings(space):
        if here[1] != here[2]:
            flags = [_flag_behind(flag, going, coming, stay) for flag in (here, there)]
            if None not in flags:
                met.add(tuple(flags))
    for (at, one), (to, other) in product(enumerate(coming), repeat=2):
        shared = set(one) & set(other)
        # Faces that no block that goes has.
        if at != to and len(shared) == 3 and not any(shared <= set(names) for names in going.values()):
            [face] = [f for f in range(4) if one[f] not in shared]
            [across] = [f for f in range(4) if other[f] not in shared]
            for name in shared:
                met.add(((len(stay) + at, face, one.index(name)), (len(stay) + to, across, other.index(name))))
    return met


def _flag_behind(flag, going, coming, stay):
    block, face, corner = flag
    if block not in going:
        return stay.index(block), face, corner
    shared = set(going[block]) - {going[block][face]}
    for at, names in enumerate(coming):
        if shared <= set(names):
            [new] = [f for f in range(4) if names[f] not in shared]
            return len(stay) + at, new, names.index(going[block][corner])
    return None
