"""Ways of moves between spaces, simpler spaces, and balls, which are shown by taking off one block after the other."""

from itertools import combinations

from blockrooms.alike import least_name
from blockrooms.around import is_sound
from blockrooms.cells import counted, parts_of
from blockrooms.errors import NoMove
from blockrooms.moves import GROWTH, blocks_going, done, moved, moves_in
from blockrooms.spaces import is_listed, is_order, space_of


def leads(space, way, other):
    """Whether the moves of a way, one behind the other, lead from a space to one that is alike another one."""
    here, there = space_of(space), space_of(other)
    if not is_listed(way):
        return False
    for move in way:
        try:
            here = moved(here, move)[0]
        except NoMove:
            return False
    return least_name(here) == least_name(there)


def way_to(space, other, *, moves, blocks):
    """The first of the shortest ways, of at most so many moves, to a space that is alike another one; None if none is.

    Each space behind a move has at most so many blocks.
    """
    here, goal = space_of(space), least_name(other)
    if least_name(here) == goal:
        return []
    far = _how_far(goal, moves - 1, blocks)
    way = []
    left = moves
    while left > 0:
        steps = _steps(here, blocks)
        found = [far.get(least_name(behind), moves) for _, behind in steps]
        left = min(found, default=moves)
        # All but the first step come nearer.
        if left == moves:
            return None
        move, here = steps[found.index(left)]
        way.append(move)
    return way if way else None


def _how_far(goal, moves, blocks):
    """From which spaces, told by their names, how many moves lead to the goal: up to so many."""
    far = {}
    # Each move is undone by a move, so the ways to the goal are those from there, gone back.
    level = [goal] if len(goal) <= blocks else []
    for many in range(moves + 1):
        level = [name for name in level if name not in far]
        for name in level:
            far[name] = many
        if many < moves:
            level = _names_behind(level, blocks)
    return far


def _names_behind(level, blocks):
    """The names of the spaces to which one move leads from those of a level, each once."""
    told = {}
    for name in level:
        for behind in _spaces_behind(name, blocks):
            told[least_name(behind)] = True
    return list(told)


def _steps(space, blocks):
    """The moves of a space, sorted, with the space behind each, of at most so many blocks."""
    return [(move, done(space, move)) for move in _moves_within(space, blocks)]


def _moves_within(space, blocks):
    return [move for move in moves_in(space) if len(space) + GROWTH[move[0]] <= blocks]


def _spaces_behind(space, blocks):
    """The spaces behind the moves of a space, each move under one of its names alone."""
    # Each of the blocks that go has one name of a move.
    return [done(space, move) for move in _moves_within(space, blocks) if move[1] == min(blocks_going(space, move))]


def simplest(space, *, moves, blocks):
    """The first of the shortest ways, of at most so many moves, to a space of as few blocks as any such way leads to.

    Each space behind a move has at most so many blocks.
    """
    here = space_of(space)
    known = {}
    fewest = _fewest(here, moves, blocks, known)
    left = 0
    while _fewest(here, left, blocks, known) > fewest:
        left += 1
    way = []
    while left > 0:
        left -= 1
        move, here = _first_step(here, left, blocks, known, fewest)
        way.append(move)
    return way


def _first_step(space, moves, blocks, known, fewest):
    """The first move behind which at most so many more lead to a space of the fewest blocks, and the space behind."""
    for move in _moves_within(space, blocks):
        behind = done(space, move)
        if _fewest(behind, moves, blocks, known) == fewest:
            return (move, behind)
    return None


def _fewest(space, moves, blocks, known):
    """How many blocks the least space has that at most so many moves lead to; what was found is kept by names."""
    if moves == 0:
        return len(space)
    # The last move is not done: it is known how many blocks it leaves.
    if moves == 1:
        return min([len(space)] + [len(space) + GROWTH[move[0]] for move in _moves_within(space, blocks)])
    key = (least_name(space), moves)
    if key not in known:
        found = [_fewest(behind, moves - 1, blocks, known) for behind in _spaces_behind(space, blocks)]
        known[key] = min([len(space)] + found)
    return known[key]


def taken_off(space):
    """The first order in which all blocks are taken off; None where there is none."""
    whole = space_of(space)
    # Most spaces that can't be taken off are known without a search, which is long where there are many blocks.
    if not _may_be_taken_off(whole):
        return None
    order = _order_from(whole, tuple(range(len(whole))), {})
    return None if order is None else list(order)


def _may_be_taken_off(space):
    """Whether the space has what all have that can be taken off: they are balls, no block of them joined to itself."""
    corners, edges, faces, blocks = counted(space)
    if corners - edges + faces - blocks != 1 or len(parts_of(space)) > 1 or not is_sound(space):
        return False
    return not any([joining is not None and joining[0] == block
                    for block, row in enumerate(space) for joining in row])


def _order_from(space, left, known):
    """The first order that takes off the blocks that are left, all of them tuples; what was found is kept by these."""
    if left not in known:
        known[left] = left if _is_alone(space, left) else None
        for at, block in enumerate(left):
            if _may_be_taken(space, block, left):
                order = _order_from(space, left[:at] + left[at + 1:], known)
                if order is not None:
                    known[left] = (block,) + order
                    break
    return known[left]


def takes_off(space, order):
    """Whether it is an order in which all blocks are taken off."""
    whole = space_of(space)
    if not is_order(order, len(whole)):
        return False
    left = list(range(len(whole)))
    for block in order[:-1]:
        if not _may_be_taken(whole, block, left):
            return False
        left.remove(block)
    return _is_alone(whole, left)


def _is_alone(space, left):
    """Whether one block is left, which is joined with nothing."""
    return len(left) == 1 and not _joined_faces(space, left[0], left)


def _joined_faces(space, block, left):
    """The faces by which a block is joined to those that are left."""
    return [face for face in range(4) if space[block][face] is not None and space[block][face][0] in left]


def _may_be_taken(space, block, left):
    """Whether a block may be taken off, which is one of those that are left."""
    faces = _joined_faces(space, block, left)
    if not 1 <= len(faces) <= 3 or block in [space[block][face][0] for face in faces]:
        return False
    return all([_is_one_edge(space, block, pair, left) for pair in combinations(faces, 2)])


def _is_one_edge(space, block, faces, left):
    """Whether the edge of two of a block's faces is, without the block, one edge in one direction from both."""
    ends = [corner for corner in range(4) if corner not in faces]
    start, end = ends
    here, face = block, faces[0]
    # What is left around the edge lies in a row, at whose one end is the one face's other side. So the other face's has
    # to be at the other end, behind which the block is met again, by this edge.
    while True:
        joining = space[here][face]
        if joining is None or joining[0] not in left:
            return False
        here, turn = joining
        start, end, met = turn[start], turn[end], turn[face]
        if here == block:
            return [start, end] == ends
        face = 6 - start - end - met
