"""Point 4: kinds, how many unlike sums there are, spots, and sums that have them."""

import random
import unittest
from itertools import product
from math import prod

from sumroom.errors import BadSpot, BadSum
from sumroom.rooms import Room
from tests.checks import RoomChecks
from tests.oracle import alike_by_minors, box, kinds_by_minors, left, plus, some_rooms, some_sum, times, woven

KNOWN = [
    (0, [], []), (0, [[], []], []),
    (1, [], [0]), (1, [[0]], [0]), (1, [[1]], []), (1, [[-1]], []), (1, [[7]], [7]), (1, [[-7]], [7]),
    (1, [[12], [18]], [6]), (1, [[12], [18], [25]], []), (1, [[10 ** 12]], [10 ** 12]),
    (2, [], [0, 0]), (2, [[2, 0], [0, 3]], [6]), (2, [[2, 0], [0, 4]], [2, 4]), (2, [[4, 0], [0, 2]], [2, 4]),
    (2, [[4, 0], [0, 6]], [2, 12]), (2, [[6, 0], [0, 10]], [2, 30]), (2, [[2, 4]], [2, 0]), (2, [[3, 5]], [0]),
    (2, [[0, 0]], [0, 0]), (2, [[0, 5]], [5, 0]), (2, [[1, 1]], [0]), (2, [[2, 1], [1, 2]], [3]),
    (2, [[2, 2], [2, -2]], [2, 4]), (2, [[1, 0], [0, 1]], []), (2, [[3, 6], [6, 12]], [3, 0]),
    (3, [[2, 4, 4], [-6, 6, 12], [10, 4, 16]], [2, 2, 156]), (3, [[2, 0, 0], [0, 2, 0], [0, 0, 2]], [2, 2, 2]),
    (3, [[6, 0, 0], [0, 10, 0], [0, 0, 15]], [30, 30]), (3, [[1, 2, 3], [4, 5, 6], [7, 8, 9]], [3, 0]),
    (3, [[4, 0, 0]], [4, 0, 0]), (3, [[0, 4, 0], [0, 6, 0]], [2, 0, 0]),
    (4, [[2, 0, 0, 0], [0, 3, 0, 0], [0, 0, 5, 0], [0, 0, 0, 7]], [210]),
    (4, [[8, 0, 0, 0], [0, 4, 0, 0], [0, 0, 2, 0], [0, 0, 0, 12]], [2, 4, 4, 24]),
    (6, [], [0] * 6), (6, [[30, 0, 0, 0, 0, 0], [0, 42, 0, 0, 0, 0]], [6, 210, 0, 0, 0, 0]),
]


class Kinds(RoomChecks, unittest.TestCase):

    def test_known_rooms(self):
        for letters, rows, kinds in KNOWN:
            room = Room(letters, rows)
            self.assertEqual(room.kinds(), kinds, rows)
            self.check_kinds(room)

    def test_the_order_and_the_signs_of_nothings_do_not_count(self):
        for letters, rows, kinds in KNOWN:
            self.assertEqual(Room(letters, rows[::-1]).kinds(), kinds)
            self.assertEqual(Room(letters, [times(-1, row) for row in rows]).kinds(), kinds)
            self.assertEqual(Room(letters, [row[::-1] for row in rows]).kinds(), kinds)
            self.assertEqual(Room(letters, rows + rows).kinds(), kinds)

    def test_just_those_that_determinants_tell(self):
        for seed, far in ((41, 3), (42, 12), (43, 1000)):
            for letters, rows in some_rooms(seed, 150, 5, 6, far):
                room = Room(letters, rows)
                self.assertEqual(room.kinds(), kinds_by_minors(letters, rows), (letters, rows))
                self.check_kinds(room)

    def test_many_kinds(self):
        chance = random.Random(44)
        for _ in range(120):
            wide = chance.randint(2, 5)
            turn = [some_sum(chance, wide, 2) for _ in range(wide)]
            some = [chance.choice([0, 1, 2, 3, 4, 6, 9, 12, 30]) for _ in range(wide)]
            rows = [times(many, row) for many, row in zip(some, turn)]
            room = Room(wide, rows)
            self.assertEqual(room.kinds(), kinds_by_minors(wide, rows), rows)
            self.check_kinds(room)


class Count(unittest.TestCase):

    def test_known_rooms(self):
        for letters, rows, kinds in KNOWN:
            many = 1
            for kind in kinds:
                many *= kind
            self.assertEqual(Room(letters, rows).count(), many if 0 not in kinds else None)

    def test_one_where_there_is_no_kind(self):
        self.assertEqual(Room(0).count(), 1)
        self.assertEqual(Room(1, [[1]]).count(), 1)
        self.assertEqual(Room(2, [[2, 1], [1, 1]]).count(), 1)

    def test_none_where_there_is_no_end(self):
        self.assertIsNone(Room(1).count())
        self.assertIsNone(Room(2, [[5, 0]]).count())
        self.assertIsNone(Room(2, [[2, 4], [3, 6]]).count())

    def test_as_many_as_can_be_found(self):
        for rows in ([[2, 1], [1, 2]], [[2, 0], [0, 3]], [[2, 2], [2, -2]], [[4, 2], [0, 2]], [[1, 3], [3, 1]]):
            unlike = []
            for one in box(2, 4):
                if not any(alike_by_minors(2, rows, one, other) for other in unlike):
                    unlike.append(one)
            self.assertEqual(Room(2, rows).count(), len(unlike))


class Spots(RoomChecks, unittest.TestCase):

    def test_each_sum_has_one(self):
        chance = random.Random(51)
        for letters, rows in some_rooms(52, 200, 6, 8, 20):
            room = Room(letters, rows)
            for _ in range(4):
                self.check_spot(room, some_sum(chance, letters, 60))
            self.check_spot(room, [0] * letters)

    def test_alike_sums_have_the_same_and_unlike_ones_unlike_ones(self):
        chance = random.Random(53)
        for letters, rows in some_rooms(54, 120, 4, 5, 4):
            room = Room(letters, rows)
            sums = [some_sum(chance, letters, 3) for _ in range(5)]
            sums.append(plus(sums[0], woven([chance.randint(-4, 4) for _ in rows], rows, letters)))
            self.assertEqual(room.spot(sums[0]), room.spot(sums[-1]))
            for one, other in product(sums, sums):
                self.assertEqual(room.spot(one) == room.spot(other), alike_by_minors(letters, rows, one, other))

    def test_each_spot_is_one_of_some_sum(self):
        for letters, rows, kinds in KNOWN:
            room = Room(letters, rows)
            places = [range(kind) if kind else (-3, 0, 10 ** 15) for kind in kinds]
            if prod([len(some) for some in places]) > 1000:
                continue
            found = []
            for spot in product(*places):
                self.check_sum_at(room, list(spot))
                found.append(room.sum_at(list(spot)))
            # Each spot has a sum unlike that of each other one.
            for at, one in enumerate(found[:12]):
                for other in found[at + 1:]:
                    self.assertFalse(room.alike(one, other))

    def test_there_and_back_at_the_ends_of_spots(self):
        chance = random.Random(55)
        for letters, rows in some_rooms(56, 150, 6, 8, 40):
            room = Room(letters, rows)
            kinds = room.kinds()
            self.check_sum_at(room, [0] * len(kinds))
            self.check_sum_at(room, [kind - 1 for kind in kinds])
            self.check_sum_at(room, [chance.randrange(kind) if kind else chance.randint(-99, 99) for kind in kinds])
            self.check_sum_at(room, [kind // 2 if kind else -10 ** 30 for kind in kinds])
            self.assertTrue(room.alike(room.sum_at([0] * len(kinds)), [0] * letters))

    def test_the_spot_of_two_put_together(self):
        chance = random.Random(57)
        for letters, rows in some_rooms(58, 200, 6, 8, 30):
            room = Room(letters, rows)
            kinds = room.kinds()
            one, other = some_sum(chance, letters, 50), some_sum(chance, letters, 50)
            both = plus(room.spot(one), room.spot(other))
            self.assertEqual(room.spot(plus(one, other)), [left(place, kind) for place, kind in zip(both, kinds)])
            self.assertEqual(room.spot(times(3, one)), [left(3 * place, kind)
                                                        for place, kind in zip(room.spot(one), kinds)])

    def test_noughts_have_noughts(self):
        for letters, rows, kinds in KNOWN:
            room = Room(letters, rows)
            self.assertEqual(room.spot([0] * letters), [0] * len(kinds))
            for row in rows:
                self.assertEqual(room.spot(row), [0] * len(kinds))

    def test_no_kinds(self):
        for room in (Room(0), Room(1, [[1]]), Room(2, [[1, 0], [5, -1]])):
            self.assertEqual(room.spot([4] * room.letters()), [])
            self.check_sum_at(room, [])


class Refused(unittest.TestCase):

    def test_what_is_no_spot_of_the_room(self):
        room = Room(3, [[2, 0, 0], [0, 12, 0]])
        self.assertEqual(room.kinds(), [2, 12, 0])
        for spot in ([2, 0, 0], [-1, 0, 0], [0, 12, 0], [0, -1, 0], [0, 10 ** 20, 0], [5, 50, 5], [1, 11], [],
                     [1, 11, 0, 0], [1, 11, True], [False, 0, 0], [1, 11, 0.0], (1, 11, 0), "000", None, {}, 7):
            with self.assertRaises(BadSpot):
                room.sum_at(spot)
        for spot in ([1, 11, 0], [0, 0, -5], [1, 0, 10 ** 50], [0, 11, -10 ** 50]):
            self.assertEqual(room.spot(room.sum_at(spot)), spot)

    def test_rooms_without_a_kind(self):
        for room in (Room(0), Room(1, [[1]])):
            for spot in ([0], [1], None, (), "", {}):
                with self.assertRaises(BadSpot):
                    room.sum_at(spot)

    def test_a_spot_of_the_room_as_it_was(self):
        room = Room(1, [[12]])
        self.assertEqual(room.spot(room.sum_at([11])), [11])
        room.put([8])
        with self.assertRaises(BadSpot):
            room.sum_at([11])
        self.assertEqual(room.spot(room.sum_at([3])), [3])

    def test_spot_of_what_is_no_sum(self):
        for one in ([], [1], [1, 2, 3], [1, True], [1, None], (1, 2), None, "12", 12):
            with self.assertRaises(BadSum):
                Room(2, [[2, 2]]).spot(one)


if __name__ == "__main__":
    unittest.main()
