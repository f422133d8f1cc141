"""Rooms: what is left of a space that is cut along a surface.

A region of a block is a tuple (block, sort, at): before the triangle of that number, seen from its corner; or of the
rest, by the block's sort of quads, seen from corner 0: before the quad of that number, or behind the last one.
"""

from blockrooms.cells import corners_of, meetings_of
from blockrooms.links import places_of, rows_of
from blockrooms.numbers import QUADS, SORTS, is_with_corner_0, quad_sort, surface_of
from blockrooms.spaces import space_of


def rooms_of(space, numbers):
    """Of each room the places of the corners that lie in it."""
    whole = space_of(space)
    surface = surface_of(whole, numbers)
    rooms = rows_of(_region_links(whole, surface))
    place = places_of(rooms)
    told = [[] for _ in rooms]
    for at, cells in enumerate(corners_of(whole)):
        block, corner = cells[0]
        # At any face that has it the corner lies in the region that is the first from there.
        face = 1 if corner == 0 else 0
        told[place[_regions_from(surface, block, face, corner)[0]]].append(at)
    return sorted(told)


def _region_links(space, numbers):
    """Which regions meet at joined faces."""
    links = {region: [] for block in range(len(space)) for region in _regions_in(numbers, block)}
    for here, there in meetings_of(space):
        for region, other in zip(_regions_from(numbers, *here), _regions_from(numbers, *there)):
            links[region].append(other)
    return links


def _regions_in(numbers, block):
    return [region for corner in range(4) for region in _tips_at(numbers, block, corner)] + _layers_of(numbers, block)


def _tips_at(numbers, block, corner):
    """The regions from a corner on, each before a triangle."""
    return [(block, corner, at) for at in range(numbers[SORTS * block + corner])]


def _layers_of(numbers, block):
    """The regions that are left of a block without those at its corners, from corner 0's side on."""
    sort = _sort_of_quads(numbers, block)
    return [(block, sort, at) for at in range(numbers[SORTS * block + sort] + 1)]


def _sort_of_quads(numbers, block):
    """The one sort of quads in a block, any of them where there is none."""
    for sort in QUADS:
        if numbers[SORTS * block + sort] > 0:
            return sort
    return QUADS[0]


def _regions_from(numbers, block, face, corner):
    """The regions that come to a face, from its corner to its middle."""
    layers = _layers_of(numbers, block)
    sort = _sort_of_quads(numbers, block)
    if not is_with_corner_0(sort, corner):
        layers = layers[::-1]
    # The face's middle lies behind just those quads that have arcs around the corner there.
    if sort != quad_sort(corner, face):
        layers = layers[:1]
    return _tips_at(numbers, block, corner) + layers
