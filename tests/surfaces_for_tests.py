"""Surfaces and checks of them that several tests share: pieces told by their points alone, and rooms by edges."""

from functools import cache
from itertools import permutations, product

from blockrooms.least import least_surfaces
from blockrooms.numbers import go_together
from rooms_for_tests import glueings, many_spaces, merged, merged_corners, merged_edges

ENDS = list(permutations(range(4), 2))


def parted_ends(sort):
    """The corners on the one side of a triangle or a quad of a sort, and those on the other."""
    side = {sort} if sort < 4 else {0, sort - 3}
    return side, {0, 1, 2, 3} - side


def crossings(numbers, block, start, end):
    """How many pieces part both ends of a block's edge."""
    return sum(numbers[7 * block + sort] for sort in range(7) if (start in parted_ends(sort)[0])
               != (end in parted_ends(sort)[0]))


def pieces(numbers):
    """Of each piece, a tuple (block, sort, at), the rim: a list of points (block, from, to, at) on edges of its block.

    The edges go from the side that has the triangle's corner or the quad's corner 0.
    """
    told = {}
    for place, many in enumerate(numbers):
        block, sort = divmod(place, 7)
        near, far = map(sorted, parted_ends(sort))
        if sort < 4:
            ends = [(sort, end) for end in far]
        else:
            ends = [(near[0], far[0]), (near[1], far[0]), (near[1], far[1]), (near[0], far[1])]
        for at in range(many):
            ahead = [0 if sort < 4 else numbers[7 * block + start] for start, _ in ends]
            told[block, sort, at] = [(block, *end, at + more) for end, more in zip(ends, ahead)]
    return told


def turned(numbers, point):
    """The same point, told from the other end of its edge on."""
    block, start, end, at = point
    return (block, end, start, crossings(numbers, block, start, end) - 1 - at)


def carried(space, numbers, point, face):
    """The point at the other side of a joined face, told from the lesser end on."""
    block, start, end, at = point
    other, turn = space[block][face]
    return upward(numbers, (other, turn[start], turn[end], at))


def upward(numbers, point):
    return point if point[1] < point[2] else turned(numbers, point)


class Apart:
    """A surface taken apart by the points of its pieces."""

    def __init__(self, space, numbers):
        self.space, self.numbers = space, numbers
        self.rims = pieces(numbers)
        self.owner = {}
        for piece, rim in self.rims.items():
            for one, other in zip(rim, rim[1:] + rim[:1]):
                face = ({0, 1, 2, 3} - set(one[1:3]) - set(other[1:3])).pop()
                ends = upward(numbers, one), upward(numbers, other)
                assert (face, *sorted(ends)) not in self.owner
                self.owner[face, *sorted(ends)] = piece, ends
        self.joints = list(self._joints())

    def _joints(self):
        """Sides that are joined: (side, other side), each (face, point, point)."""
        for face, one, other in self.owner:
            if self.space[one[0]][face] is not None:
                _, turn = self.space[one[0]][face]
                ends = [carried(self.space, self.numbers, point, face) for point in (one, other)]
                yield (face, one, other), (turn[face], *sorted(ends))

    def points(self):
        """Lots of the points that are one, each told from the lesser end of its edge on."""
        points = {upward(self.numbers, point) for rim in self.rims.values() for point in rim}
        return merged(sorted(points), [(point, carried(self.space, self.numbers, point, face)) for point in points
                                       for face in {0, 1, 2, 3} - set(point[1:3])
                                       if self.space[point[0]][face] is not None])

    def counted(self):
        return len(self.points()), len(merged(self.owner, self.joints)), len(self.rims)

    def parts(self):
        """Lots of pieces that hang together."""
        return merged(self.rims, [(self.owner[one][0], self.owner[other][0]) for one, other in self.joints])

    def words(self):
        """Of each part its numbers and its words, sorted."""
        return sorted((numbers_of(row, len(self.numbers)), self._words(row)) for row in self.parts())

    def _words(self, row):
        points = [lot for lot in self.points() if any(point in lot for piece in row for point in
                                                      [upward(self.numbers, p) for p in self.rims[piece]])]
        mine = {side for side in self.owner if self.owner[side][0] in row}
        sides = merged(mine, [joint for joint in self.joints if joint[0] in mine])
        return (len(points) - len(sides) + len(row), self._borders(mine, points), self._agree(row, self._directions()),
                self._agree(row, self._sides()))

    def _borders(self, sides, points):
        free = [side for side in sides if self.space[side[1][0]][side[0]] is None]
        met = {point: lot[0] for lot in points for point in lot}
        return len(merged(free, [(one, other) for one, other in product(free, free)
                                 if {met[p] for p in one[1:]} & {met[p] for p in other[1:]}]))

    def _agree(self, row, pairs):
        """Whether no piece must have both signs, where those of each pair go together."""
        lots = merged(product(self.rims, (1, -1)), pairs)
        return not any((piece, 1) in lot and (piece, -1) in lot for lot in lots for piece in row)

    def _directions(self):
        for one, other in self.joints:
            face, start, end = one
            piece, ends = self.owner[one]
            mate, others = self.owner[other]
            gone = tuple(carried(self.space, self.numbers, point, face) for point in ends)
            for sign in (1, -1):
                yield (piece, sign), (mate, -sign if gone == others else sign)

    def _sides(self):
        for one, other in self.joints:
            face, (block, start, end, _), _ = one
            _, turn = self.space[block][face]
            piece, mate = self.owner[one][0], self.owner[other][0]
            for towards in (start, end):
                sign = 1 if towards in parted_ends(piece[1])[0] else -1
                yield (piece, sign), (mate, 1 if turn[towards] in parted_ends(mate[1])[0] else -1)


def numbers_of(row, many):
    told = [0] * many
    for block, sort, _ in row:
        told[7 * block + sort] += 1
    return told


def rooms_by_edges(space, numbers):
    """The rooms, by the stretches of edges of blocks between points: each region of a block has some at each face."""
    stretches = [(block, *ends, at) for block in range(len(space)) for ends in ENDS
                 for at in range(crossings(numbers, block, *ends) + 1)]
    pairs, held = [], {}
    for stretch in stretches:
        block, start, end, at = stretch
        pairs.append((stretch, (block, end, start, crossings(numbers, block, start, end) - at)))
        pairs.append((stretch, held.setdefault((block, _sides_of(numbers, stretch)), stretch)))
    for (block, face, start), (other, _, far) in glueings(space):
        for end in set(range(4)) - {face, start} if start != face else ():
            for at in range(crossings(numbers, block, start, end) + 1):
                pairs.append(((block, start, end, at), (other, far, space[block][face][1][end], at)))
    rooms = merged(stretches, pairs)
    told = [[] for _ in rooms]
    for place, row in enumerate(merged_corners(space)):
        block, corner = row[0]
        [at] = [at for at, room in enumerate(rooms) if (block, corner, (corner + 1) % 4, 0) in room]
        told[at].append(place)
    return sorted(told)


def _sides_of(numbers, stretch):
    """On which side of each piece of its block a stretch lies."""
    block, start, end, at = stretch
    told = []
    for (home, sort, number), rim in pieces(numbers).items():
        if home == block:
            near, _ = parted_ends(sort)
            crossed = [point[3] if point[1] == start else turned(numbers, point)[3] for point in rim
                       if set(point[1:3]) == {start, end}]
            is_near = start in near if not crossed else (at <= crossed[0]) == (start in near)
            told.append((sort, number, is_near))
    return tuple(sorted(told))


def numbers_renamed(numbers, order, turns):
    """A surface's numbers, renamed as its space is."""
    told = [0] * len(numbers)
    for place, (block, turn) in enumerate(zip(order, turns)):
        for corner in range(4):
            told[7 * place + turn[corner]] = numbers[7 * block + corner]
        for k in (1, 2, 3):
            # Its two corners with 0, by new names, on one side, or the other two.
            side = {turn[0], turn[k]}
            side = side if 0 in side else {0, 1, 2, 3} - side
            told[7 * place + 3 + max(side)] = numbers[7 * block + 3 + k]
    return told


def without_bent_edges(space):
    return not any((b, end, start) in row for row in merged_edges(space) for b, start, end in row[:1])


@cache
def many_surfaces():
    """Spaces, of up to three blocks, each with a few surfaces: sums of least ones that go together."""
    told = []
    for seed, space in enumerate(many_spaces()):
        if len(space) <= 3:
            least = least_surfaces(space)
            for step in range(3):
                told.append((space, _some_sum(space, least, 3 * seed + step)))
    return told


def _some_sum(space, least, seed):
    total, number = [0] * (7 * len(space)), 6007 * seed + 1
    for _ in range(1 + seed % 4):
        number = (number * 1103515245 + 12345) % 2 ** 31
        more = least[(number >> 8) % len(least)]
        if go_together(space, total, more) and sum(total) < 40:
            total = [one + other for one, other in zip(total, more)]
    return total
