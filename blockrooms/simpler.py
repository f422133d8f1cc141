"""Ways of moves between spaces, simpler spaces, and balls, which are shown by taking off one block after the other."""

from itertools import combinations

from blockrooms.alike import least_name
from blockrooms.around import is_sound
from blockrooms.cells import border, counted, edges_of, parts_of
from blockrooms.errors import NoMove
from blockrooms.moves import GROWTH, blocks_going, done, moved, moves_in
from blockrooms.spaces import is_listed, is_order, space_of


def leads(space, way, other):
    """Whether the moves of a way, one behind the other, lead from a space to one that is alike another one."""
    here, there = space_of(space), space_of(other)
    if not is_listed(way):
        return False
    for move in way:
        try:
            here = moved(here, move)[0]
        except NoMove:
            return False
    return least_name(here) == least_name(there)


def way_to(space, other, *, moves, blocks):
    """The first of the shortest ways, of at most so many moves, to a space that is alike another one; None if none is.

    Each space behind a move has at most so many blocks.
    """
    here, goal = space_of(space), least_name(other)
    if least_name(here) == goal:
        return []
    far = _how_far(goal, moves - 1, blocks)
    way = []
    left = moves
    while left > 0:
        steps = _steps(here, blocks)
        found = [far.get(least_name(behind), moves) for _, behind in steps]
        left = min(found, default=moves)
        # All but the first step come nearer.
        if left == moves:
            return None
        move, here = steps[found.index(left)]
        way.append(move)
    return way if way else None


def _how_far(goal, moves, blocks):
    """From which spaces, told by their names, how many moves lead to the goal: up to so many."""
    far = {}
    # Each move is undone by a move, so the ways to the goal are those from there, gone back.
    level = [goal] if len(goal) <= blocks else []
    for many in range(moves + 1):
        level = [name for name in level if name not in far]
        for name in level:
            far[name] = many
        if many < moves:
            level = _names_behind(level, blocks)
    return far


def _names_behind(level, blocks):
    """The names of the spaces to which one move leads from those of a level, each once."""
    told = {}
    for name in level:
        for behind in _spaces_behind(name, blocks):
            told[least_name(behind)] = True
    return list(told)


def _steps(space, blocks):
    """The moves of a space, sorted, with the space behind each, of at most so many blocks."""
    return [(move, done(space, move)) for move in _moves_within(space, blocks)]


def _moves_within(space, blocks):
    return [move for move in moves_in(space) if len(space) + GROWTH[move[0]] <= blocks]


def _spaces_behind(space, blocks):
    """The spaces behind the moves of a space, each move under one of its names alone."""
    # Each of the blocks that go has one name of a move.
    return [done(space, move) for move in _moves_within(space, blocks) if move[1] == min(blocks_going(space, move))]


def simplest(space, *, moves, blocks):
    """The first of the shortest ways, of at most so many moves, to a space of as few blocks as any such way leads to.

    Each space behind a move has at most so many blocks.
    """
    here = space_of(space)
    known = {}
    fewest = _fewest(here, moves, blocks, known)
    left = 0
    while _fewest(here, left, blocks, known) > fewest:
        left += 1
    way = []
    while left > 0:
        left -= 1
        move, here = _first_step(here, left, blocks, known, fewest)
        way.append(move)
    return way


def _first_step(space, moves, blocks, known, fewest):
    """The first move behind which at most so many more lead to a space of the fewest blocks, and the space behind."""
    for move in _moves_within(space, blocks):
        behind = done(space, move)
        if _fewest(behind, moves, blocks, known) == fewest:
            return (move, behind)
    return None


def _fewest(space, moves, blocks, known):
    """How many blocks the least space has that at most so many moves lead to; what was found is kept by names."""
    if moves == 0:
        return len(space)
    # The last move is not done: it is known how many blocks it leaves.
    if moves == 1:
        return min([len(space)] + [len(space) + GROWTH[move[0]] for move in _moves_within(space, blocks)])
    key = (least_name(space), moves)
    if key not in known:
        found = [_fewest(behind, moves - 1, blocks, known) for behind in _spaces_behind(space, blocks)]
        known[key] = min([len(space)] + found)
    return known[key]


def taken_off(space):
    """The first order in which all blocks are taken off; None where there is none."""
    whole = space_of(space)
    corners, edges, faces, blocks = counted(whole)
    # Only a ball is taken off. Most of what is none is known by this, without a search.
    if corners - edges + faces - blocks != 1 or len(parts_of(whole)) > 1 or not is_sound(whole):
        return None
    told = _order_from(whole, tuple(range(blocks)), {})
    return None if told is None else list(told)


def _order_from(rest, left, known):
    """The first order, a tuple, that takes off what is left of a space, told with its blocks' first numbers.

    What was found is kept by these numbers.
    """
    if left not in known:
        known[left] = left if _is_last(rest) else None
        for at in range(len(left)):
            behind = _taken(rest, at)
            order = None if behind is None else _order_from(behind, left[:at] + left[at + 1:], known)
            if order is not None:
                known[left] = (left[at],) + order
                break
    return known[left]


def takes_off(space, order):
    """Whether it is an order in which all blocks are taken off."""
    rest = space_of(space)
    if not is_order(order, len(rest)):
        return False
    left = list(range(len(rest)))
    for block in order[:-1]:
        at = left.index(block)
        rest = _taken(rest, at)
        if rest is None:
            return False
        left.pop(at)
    return _is_last(rest)


def _is_last(space):
    """Whether it is one block that is joined with nothing."""
    return len(border(space)) == 4 * len(space) == 4


def _taken(space, block):
    """The space without a block that may be taken off; None where it may not."""
    faces = [face for face in range(4) if space[block][face] is not None]
    if not 1 <= len(faces) <= 3 or block in [space[block][face][0] for face in faces]:
        return None
    rest = tuple([_row_without(row, block) for at, row in enumerate(space) if at != block])
    edges = edges_of(rest)
    for one, other in combinations(faces, 2):
        start, end = [corner for corner in range(4) if corner not in (one, other)]
        cells = [_cell_across(space[block][face], start, end, block) for face in (one, other)]
        if not any([_has_both(edge, cells) for edge in edges]):
            return None
    return rest


def _row_without(row, block):
    """A block's row, where another block is there no more."""
    return tuple([None if joining is None or joining[0] == block else (_place_without(joining[0], block), joining[1])
                  for joining in row])


def _place_without(place, block):
    return place - 1 if place > block else place


def _cell_across(joining, start, end, block):
    """The edge from start to end of a block that is there no more, as it is seen from across a face of it."""
    other, turn = joining
    return (_place_without(other, block), turn[start], turn[end])


def _has_both(edge, cells):
    """Whether both edges of blocks, with their directions, belong to the edge in one direction."""
    contrary = [(block, end, start) for block, start, end in cells]
    return all([cell in edge for cell in cells]) or all([cell in edge for cell in contrary])
