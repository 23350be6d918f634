"""What the tests share: another way to work out what a room tells, odd things to hand in, and rooms."""

import random
from itertools import combinations, product
from math import gcd

FAR = 10 ** 12


class Touchy:
    """An object that does not let itself be compared, measured, gone over or counted with."""

    def refuse(self, *rest):
        raise RuntimeError("not to be asked")

    __eq__ = __ne__ = __lt__ = __le__ = __gt__ = __ge__ = __len__ = __iter__ = __bool__ = __index__ = __int__ = refuse
    __getitem__ = __contains__ = __add__ = __radd__ = __sub__ = __rsub__ = __mul__ = __rmul__ = __neg__ = refuse
    __hash__ = None


# Nothing here is a whole number, a list of whole numbers or a list of such lists.
LOOP = []
LOOP.append(LOOP)
ODD_THINGS = [
    None, True, False, 1.0, 2j, "", "1", "12", b"1", b"", (), (1, 2), {}, {0: 1, 1: 2}, set(), {1, 2},
    frozenset(), object(), object, len, range(2), iter([1, 2]), LOOP, [[[1, 2]]], [None], ["1", "2"], [1.0, 2.0],
    [True, 2], [1, False], [[1], [2]], [(1, 2)], [{1, 2}], [object()], bytearray(b"12"), NotImplemented, ...,
    Touchy(), [Touchy(), 1],
]


def determinant(rows):
    """The determinant of a square of whole numbers, without fractions."""
    rows = [list(row) for row in rows]
    sign, before = 1, 1
    for at in range(len(rows)):
        found = next((k for k in range(at, len(rows)) if rows[k][at]), None)
        if found is None:
            return 0
        if found != at:
            rows[at], rows[found] = rows[found], rows[at]
            sign = -sign
        for low in range(at + 1, len(rows)):
            for col in range(at + 1, len(rows)):
                rows[low][col] = (rows[low][col] * rows[at][at] - rows[low][at] * rows[at][col]) // before
        before = rows[at][at]
    return sign * before


def minors(rows, letters, size):
    """The largest number that goes into the determinant of each square of that size, 0 if all of them are 0."""
    found = 0
    for some in combinations(rows, size):
        for cols in combinations(range(letters), size):
            found = gcd(found, determinant([[row[c] for c in cols] for row in some]))
            if found == 1:
                return 1
    return found


def rank_and_minors(letters, rows):
    """How many rows stand free of one another, and `minors` of each size up to that."""
    found = [1]
    for size in range(1, min(letters, len(rows)) + 1):
        here = minors(rows, letters, size)
        if here == 0:
            break
        found.append(here)
    return len(found) - 1, found


def kinds_by_minors(letters, nothings):
    """The kinds, worked out from determinants alone."""
    rank, found = rank_and_minors(letters, nothings)
    kinds = [found[k + 1] // found[k] for k in range(rank)] + [0] * (letters - rank)
    return [kind for kind in kinds if kind != 1]


def alike_by_minors(letters, nothings, one, other):
    """Whether two sums are alike, worked out from determinants alone."""
    rank, found = rank_and_minors(letters, nothings)
    rank_with, found_with = rank_and_minors(letters, nothings + [minus(one, other)])
    return rank == rank_with and found[rank] == found_with[rank]


def minus(one, other):
    return [x - y for x, y in zip(one, other)]


def plus(one, other):
    return [x + y for x, y in zip(one, other)]


def times(many, one):
    return [many * x for x in one]


def woven(many, nothings, letters):
    """The sum that the nothings come to, each taken so many times."""
    return [sum(m * row[at] for m, row in zip(many, nothings)) for at in range(letters)]


def weighs(one, weights):
    return sum(x * w for x, w in zip(one, weights))


def goes_into(number, other):
    return other == 0 if number == 0 else other % number == 0


def left(number, kind):
    """What a kind leaves of a number."""
    return number % kind if kind else number


def box(letters, far):
    """All sums with numbers from -far to far."""
    return [list(one) for one in product(range(-far, far + 1), repeat=letters)]


def some_sum(chance, letters, far):
    return [chance.randint(-far, far) for _ in range(letters)]


def some_rooms(seed, many, letters=4, nothings=5, far=6):
    """Letters and nothings of so many small rooms, the same ones for each seed."""
    chance = random.Random(seed)
    for _ in range(many):
        wide = chance.randint(0, letters)
        rows = [some_sum(chance, wide, far) for _ in range(chance.randint(0, nothings))]
        yield wide, rows


def told(room, sums):
    """All that a room tells of itself and of some sums."""
    kinds = room.kinds()
    spot = [kind - 1 if kind else -7 for kind in kinds]
    pairs = [(room.alike(a, b), room.shown(a, b), room.apart(a, b)) for a in sums for b in sums]
    return (room.letters(), room.nothings(), kinds, room.count(), [room.spot(one) for one in sums],
            room.sum_at(spot), pairs, [room.order(one) for one in sums])


def units(wide):
    """Each letter once."""
    return [[int(at == place) for place in range(wide)] for at in range(wide)]


def some_ways(seed, many, letters=4, nothings=4, far=4):
    """Two rooms, as letters and nothings, and the sums of a way from the one to the other, so many times."""
    chance = random.Random(seed)
    for wide, rows in some_rooms(seed + 1, many, letters, nothings, far):
        other = chance.randint(0, letters)
        sums = [some_sum(chance, other, far) for _ in range(wide)]
        # Where the first room's nothings go has to be nothing; a few more may be so.
        ground = [woven(row, sums, other) for row in rows]
        ground += [some_sum(chance, other, 2 * far) for _ in range(chance.randint(0, nothings))]
        chance.shuffle(ground)
        yield (wide, rows), (other, ground), sums


def told_by_way(way, sums, others):
    """All that a way tells of itself, of some sums of the first room and of some of the other one."""
    return (way.left_out(), way.left_kinds(), way.reached_kinds(), way.over_kinds(),
            [(way.image(one), way.left_as(one)) for one in sums],
            [(way.source(one), way.bar(one)) for one in others])


def product_of(kinds):
    """How many unlike sums kinds without 0 come to."""
    many = 1
    for kind in kinds:
        many *= kind
    return many
