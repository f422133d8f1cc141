"""Spaces that are alike, one of which is the other renamed, and the least of all names of a space."""

from itertools import permutations

from blockrooms.cells import parts_of
from blockrooms.errors import NoName
from blockrooms.spaces import contrary, is_listed, renamed, space_of

# In a name a face that is not joined comes ahead of all joined ones.
FREE = (-1,)


def alike(one, other):
    """The first order and turns by which the one is the other, renamed; None where there are none."""
    first, second = space_of(one), space_of(other)
    if len(first) != len(second):
        return None
    found = {}
    left = list(range(len(first)))
    # The first of all is the first part by part: of parts of one kind, that one which has the least block goes first.
    for part in parts_of(second):
        told = _first_match(first, second, part, left)
        if told is None:
            return None
        for place, pair in zip(part, told):
            found[place] = pair
            left.remove(pair[0])
    pairs = [found[place] for place in range(len(second))]
    return ([pair[0] for pair in pairs], [pair[1] for pair in pairs])


def _first_match(first, second, part, blocks):
    """For each block of the second's part which block of the first becomes it, by what turn: the first such list."""
    for block in blocks:
        found = [_carried(first, second, block, part[0], turn) for turn in permutations(range(4))]
        lists = [[told[place] for place in part] for told in found if told is not None]
        if lists:
            return min(lists, key=_blocks_then_turns)
    return None


def _blocks_then_turns(pairs):
    return ([pair[0] for pair in pairs], [pair[1] for pair in pairs])


def _carried(first, second, block, place, turn):
    """What all of the second's part is, where block becomes place by the turn: a dict of (block, turn), or None."""
    found = {place: (block, turn)}
    waiting = [place]
    while waiting:
        here = waiting.pop()
        for there, pair in _neighbours(first, second, here, found[here]):
            if pair is None or found.get(there, pair) != pair:
                return None
            if there not in found:
                found[there] = pair
                waiting.append(there)
    # A part may lie over a smaller one several times.
    if len(set([pair[0] for pair in found.values()])) != len(found):
        return None
    return found


def _neighbours(first, second, place, pair):
    """Of each block that a block of the second is joined to: what it is, a tuple (block, turn); None if it can't be."""
    block, turn = pair
    told = []
    for face in range(4):
        before, behind = first[block][face], second[place][turn[face]]
        if before is not None and behind is not None:
            # The other block's corner that is joined to a corner here becomes the one that is joined to it there.
            back = contrary(before[1])
            told.append((behind[0], (before[0], tuple([behind[1][turn[corner]] for corner in back]))))
        elif before is not None or behind is not None:
            told.append((place, None))
    return told


def shows_alike(one, other, paper):
    """Whether a paper, a list of an order and turns, shows that the one is the other, renamed."""
    first, second = space_of(one), space_of(other)
    if not is_listed(paper) or len(paper) != 2:
        return False
    order, turns = paper
    try:
        return renamed(first, order, turns) == second
    except NoName:
        return False


def least_name(space):
    """The least of a space's renamings."""
    whole = space_of(space)
    # The blocks of a part stand together in it, and the parts by their own names: the least goes first.
    told = []
    for name in sorted([_least_of_part(whole, part) for part in parts_of(whole)]):
        behind = len(told)
        told.extend([tuple([_joining_behind(joining, behind) for joining in row]) for row in name])
    return tuple(told)


def _joining_behind(joining, many):
    if joining == FREE:
        return None
    return (joining[0] + many, joining[1])


def _least_of_part(space, part):
    least = None
    for block in part:
        for turn in permutations(range(4)):
            least = _lesser(space, block, turn, least)
    return least


def _lesser(space, start, turn, least):
    """The least name of a part where the start is its first block by the turn, if it is below the least one so far.

    Then the blocks are numbered as they are met, and each is turned so that it is met by the turn (0, 1, 2, 3).
    """
    numbers, order, turns = {start: 0}, [start], [turn]
    name = []
    is_lesser = least is None
    while len(name) < len(order):
        row = _next_row(space, numbers, order, turns, len(name))
        if not is_lesser:
            if row > least[len(name)]:
                return least
            is_lesser = row < least[len(name)]
        name.append(row)
    return name if is_lesser else least


def _next_row(space, numbers, order, turns, place):
    """A block's row in a name; the blocks that are met in it are added to those numbered."""
    block, back = order[place], contrary(turns[place])
    row = []
    for face in range(4):
        joining = space[block][back[face]]
        if joining is None:
            row.append(FREE)
        else:
            other, turn = joining
            met = [turn[corner] for corner in back]
            if other not in numbers:
                numbers[other] = len(order)
                order.append(other)
                turns.append(contrary(met))
            named = turns[numbers[other]]
            row.append((numbers[other], tuple([named[corner] for corner in met])))
    return tuple(row)
