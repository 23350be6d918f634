"""Rooms at the edges of all limits at once: six letters, sixteen nothings, numbers up to 10 ** 12 either way."""

import random
import unittest

from sumroom.errors import BadSum, TooMany
from sumroom.rooms import Room
from tests.checks import RoomChecks, edge_rooms
from tests.oracle import FAR, kinds_by_minors, left, plus, some_sum, times, told, woven


class Edges(RoomChecks, unittest.TestCase):

    def setUp(self):
        self.chance = random.Random(71)
        self.rooms = edge_rooms(self.chance)

    def test_the_limits_are_met(self):
        for name, rows in self.rooms.items():
            self.assertEqual((len(rows), {len(row) for row in rows}), (16, {6}), name)
            self.assertLessEqual(max(abs(number) for row in rows for number in row), FAR, name)

    def test_kinds(self):
        for name, rows in self.rooms.items():
            with self.subTest(name):
                room = Room(6, rows)
                self.check_kinds(room)
                # Of those that stand there over and over each is taken once: determinants take long.
                once = [row for at, row in enumerate(rows) if row not in rows[:at]]
                if len(once) <= 6 or room.kinds()[:1] == []:
                    self.assertEqual(room.kinds(), kinds_by_minors(6, once))
        self.assertEqual(Room(6, self.rooms["one letter each"]).kinds(), [FAR] * 6)
        self.assertEqual(Room(6, self.rooms["one letter each"]).count(), FAR ** 6)
        self.assertEqual(Room(6, self.rooms["noughts alone"]).kinds(), [0] * 6)
        self.assertEqual(Room(6, self.rooms["noughts but one"]).kinds(), [FAR] + [0] * 5)
        self.assertEqual(Room(6, self.rooms["all the same"]).kinds(), [FAR] + [0] * 5)

    def test_spots(self):
        for name, rows in self.rooms.items():
            with self.subTest(name):
                room = Room(6, rows)
                kinds = room.kinds()
                one, other = some_sum(self.chance, 6, FAR), some_sum(self.chance, 6, 10 ** 30)
                for some in (one, other, [FAR] * 6, [-FAR] * 6, [0] * 6, rows[0], rows[15]):
                    self.check_spot(room, some)
                self.check_sum_at(room, [kind - 1 for kind in kinds])
                self.check_sum_at(room, [kind // 3 if kind else -FAR for kind in kinds])
                both = plus(room.spot(one), room.spot(other))
                self.assertEqual(room.spot(plus(one, other)), [left(place, kind) for place, kind in zip(both, kinds)])

    def test_pairs(self):
        for name, rows in self.rooms.items():
            with self.subTest(name):
                room = Room(6, rows)
                one = some_sum(self.chance, 6, FAR)
                alike = plus(one, woven(some_sum(self.chance, 16, FAR), rows, 6))
                self.assertTrue(self.check_pair(room, one, alike))
                self.check_pairs(room, [one, alike, plus(one, [1, 0, 0, 0, 0, 0]), [FAR] * 6, rows[15]])

    def test_orders(self):
        for name, rows in self.rooms.items():
            with self.subTest(name):
                room = Room(6, rows)
                nothing = [0] * 6
                for one in ([1, 0, 0, 0, 0, 0], some_sum(self.chance, 6, FAR), rows[7]):
                    order = room.order(one)
                    if order is None:
                        self.assertFalse(room.alike(times(FAR ** 6, one), nothing))
                    else:
                        self.assertTrue(room.alike(times(order, one), nothing))
                        self.assertTrue(order == 1 or not room.alike(one, nothing))
                        for part in (2, 3, 5, 7, 997):
                            if order % part == 0:
                                self.assertFalse(room.alike(times(order // part, one), nothing))
        self.assertEqual(Room(6, self.rooms["one letter each"]).order([1, 2, 4, 5, 10, FAR]), FAR)

    def test_one_more_and_one_less(self):
        for name, rows in self.rooms.items():
            with self.subTest(name):
                room = Room(6, rows)
                sums = [[0] * 6, [1] * 6, some_sum(self.chance, 6, FAR)]
                first = told(room, sums)
                self.assertRaises(TooMany, room.put, [FAR] * 6)
                self.assertRaises(TooMany, Room, 6, rows + [rows[0]])
                self.assertRaises(BadSum, room.put, [FAR + 1] + [0] * 5)
                self.assertEqual(told(room, sums), first)
                room.take(15)
                told(room, sums)
                room.put(rows[15])
                self.assertEqual(told(room, sums), first)


if __name__ == "__main__":
    unittest.main()
