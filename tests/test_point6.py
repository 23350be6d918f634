"""Point 6: the order of a sum."""

import random
import unittest

from sumroom.errors import BadSum
from sumroom.rooms import Room
from tests.oracle import alike_by_minors, plus, rank_and_minors, some_rooms, some_sum, times, woven


class Orders(unittest.TestCase):

    def test_one_letter(self):
        room = Room(1, [[12]])
        found = [room.order([number]) for number in range(-12, 13)]
        after = [1, 12, 6, 4, 3, 12, 2, 12, 3, 4, 6, 12]
        self.assertEqual(found, after + after + [1])

    def test_two_letters(self):
        room = Room(2, [[4, 0], [0, 6]])
        self.assertEqual(room.order([1, 0]), 4)
        self.assertEqual(room.order([0, 1]), 6)
        self.assertEqual(room.order([1, 1]), 12)
        self.assertEqual(room.order([2, 3]), 2)
        self.assertEqual(room.order([2, 2]), 6)
        self.assertEqual(room.order([-1, 5]), 12)

    def test_sums_alike_with_nothing(self):
        chance = random.Random(61)
        for letters, rows in some_rooms(62, 100, 6, 8, 20):
            room = Room(letters, rows)
            self.assertEqual(room.order([0] * letters), 1)
            self.assertEqual(room.order(woven([chance.randint(-5, 5) for _ in rows], rows, letters)), 1)
            for row in rows:
                self.assertEqual(room.order(row), 1)

    def test_none_where_there_is_no_such_number(self):
        self.assertIsNone(Room(1).order([1]))
        self.assertIsNone(Room(1, [[0]]).order([-5]))
        room = Room(2, [[2, 4]])
        self.assertIsNone(room.order([1, 0]))
        self.assertIsNone(room.order([2, 3]))
        self.assertEqual(room.order([1, 2]), 2)
        self.assertEqual(room.order([-3, -6]), 2)
        self.assertEqual(room.order([4, 8]), 1)
        self.assertEqual(Room(2).order([0, 0]), 1)

    def test_no_letters(self):
        self.assertEqual(Room(0).order([]), 1)
        self.assertEqual(Room(0, [[], []]).order([]), 1)

    def test_the_least_one(self):
        chance = random.Random(63)
        found = 0
        for letters, rows in some_rooms(64, 250, 3, 4, 4):
            room = Room(letters, rows)
            nothing = [0] * letters
            one = some_sum(chance, letters, 6)
            order = room.order(one)
            if order is None:
                # The sum stands free of all nothings.
                self.assertGreater(rank_and_minors(letters, rows + [one])[0], rank_and_minors(letters, rows)[0])
            elif order < 120:
                found += 1
                alike = [many for many in range(1, order + 1) if alike_by_minors(letters, rows, times(many, one), nothing)]
                self.assertEqual(alike, [order], (letters, rows, one))
        self.assertGreater(found, 100)

    def test_alike_sums_have_the_same_order(self):
        chance = random.Random(65)
        for letters, rows in some_rooms(66, 100, 5, 6, 9):
            room = Room(letters, rows)
            one = some_sum(chance, letters, 20)
            other = plus(one, woven([chance.randint(-5, 5) for _ in rows], rows, letters))
            self.assertEqual(room.order(one), room.order(other))
            self.assertEqual(room.order(one), room.order(times(-1, one)))

    def test_it_goes_into_the_last_kind(self):
        chance = random.Random(67)
        for letters, rows in some_rooms(68, 100, 3, 6, 9):
            room = Room(letters, rows)
            if room.count() is not None:
                for _ in range(3):
                    order = room.order(some_sum(chance, letters, 30))
                    self.assertEqual((room.kinds() or [1])[-1] % order, 0)

    def test_what_is_no_sum(self):
        room = Room(2, [[2, 0]])
        for one in (None, [], [1], [1, 2, 3], [True, 0], [1.0, 0], (0, 0), "00", 0, {0: 0, 1: 0}):
            with self.assertRaises(BadSum):
                room.order(one)


if __name__ == "__main__":
    unittest.main()
