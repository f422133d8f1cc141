"""Least surfaces: those that are no sum of two others, and surfaces told as sums of them."""

from heapq import heappop, heappush

from blockrooms.cells import meetings_of
from blockrooms.numbers import SORTS, are_numbers, are_numbers_of, arcs_at, is_surface, quads_agree, surface_of
from blockrooms.spaces import is_listed, is_whole, space_of


def least_surfaces(space):
    """All least surfaces, sorted."""
    return [list(numbers) for numbers in _least_of(space_of(space))]


def _least_of(space):
    """All least surfaces, sorted, each a tuple."""
    many = SORTS * len(space)
    # Were no face joined, all triangles and quads would be least, each alone; then one meeting after the other counts.
    found = [tuple([1 if at == place else 0 for at in range(many)]) for place in range(many)]
    for here, there in meetings_of(space):
        # Each meeting stands there from both sides.
        if here < there:
            found = _least_that_meet(found, here, there)
    return sorted(found)


def _least_that_meet(found, here, there):
    """The least ones of those sums of the found ones that have as many arcs here as there.

    Those found are all the least ones while this meeting does not count yet.
    """
    waiting = []
    for numbers in found:
        heappush(waiting, (sum(numbers), numbers))
    seen = set(found)
    # By size, so that all that a sum may be put together of is met ahead of it. Those that have more arcs here, or more
    # there, are kept, too: with each other they make sums that have as many on both sides.
    met = []
    while waiting:
        size, numbers = heappop(waiting)
        gap = arcs_at(numbers, *here) - arcs_at(numbers, *there)
        if not _is_put_together(size, gap, numbers, met):
            for _, less, other in met:
                if gap * less < 0:
                    total = tuple([one + two for one, two in zip(numbers, other)])
                    if total not in seen and quads_agree(total):
                        seen.add(total)
                        heappush(waiting, (sum(total), total))
            met.append((size, gap, numbers))
    return [row[2] for row in met if row[1] == 0]


def _is_put_together(size, gap, numbers, met):
    """Whether the numbers are a sum of two, neither of which has more arcs on the side where the sum has less.

    Then one of those met goes into them, and one of at most half their size.
    """
    for small, less, part in met:
        if 2 * small > size:
            return False
        if min(0, gap) <= less <= max(0, gap) and all([one <= other for one, other in zip(part, numbers)]):
            return True
    return False


def as_sum(space, numbers):
    """The surface as a sum, from the first least surface on, each as often as it goes: tuples (how many, which)."""
    whole = space_of(space)
    left = surface_of(whole, numbers)
    told = []
    for least in _least_of(whole):
        many = min([have // taken for have, taken in zip(left, least) if taken > 0])
        if many > 0:
            told.append((many, list(least)))
            left = [have - many * taken for have, taken in zip(left, least)]
    return told


def sums_to(space, numbers, told):
    """Whether what is told, tuples (how many, least surface), each surface once, is a sum that makes the surface."""
    whole = space_of(space)
    if not are_numbers_of(whole, numbers) or not is_surface(whole, numbers):
        return False
    if not is_listed(told) or not all([_is_share(share) for share in told]):
        return False
    least = _least_of(whole)
    parts = [tuple(part) for _, part in told]
    if not all([part in least for part in parts]) or len(set(parts)) != len(parts):
        return False
    total = [0] * len(numbers)
    for many, part in told:
        total = [have + many * number for have, number in zip(total, part)]
    return total == list(numbers)


def _is_share(thing):
    if not is_listed(thing) or len(thing) != 2:
        return False
    many, part = thing
    return is_whole(many) and many >= 1 and are_numbers(part)
