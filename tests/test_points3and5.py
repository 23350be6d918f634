"""Points 3 and 5: which sums are alike, what shows it, and the gauges that tell the others apart."""

import random
import unittest

from sumroom.errors import BadSum
from sumroom.rooms import Room
from tests.checks import RoomChecks
from tests.oracle import alike_by_minors, box, goes_into, plus, some_rooms, some_sum, times, weighs, woven


class Alike(RoomChecks, unittest.TestCase):

    def test_one_letter(self):
        room = Room(1, [[6]])
        for one in range(-13, 14):
            for other in range(-13, 14):
                self.assertEqual(room.alike([one], [other]), (one - other) % 6 == 0)
        self.check_pairs(room, [[number] for number in range(-7, 8)])

    def test_two_numbers_that_have_another_one_in_common(self):
        room = Room(1, [[6], [10]])
        self.assertTrue(self.check_pair(room, [5], [3]))
        self.assertTrue(self.check_pair(room, [-4], [10]))
        self.assertFalse(self.check_pair(room, [4], [3]))

    def test_nothings_taken_below_nought(self):
        room = Room(2, [[3, 1], [1, 2]])
        self.assertTrue(self.check_pair(room, [2, -1], [0, 0]))
        self.assertEqual(room.shown([2, -1], [0, 0]), [1, -1])
        self.assertEqual(room.shown([0, 0], [2, -1]), [-1, 1])
        self.assertTrue(self.check_pair(room, [-4, -3], [0, 0]))
        self.assertFalse(self.check_pair(room, [1, 0], [0, 0]))

    def test_what_is_alike_only_taken_some_times(self):
        # Half a nothing is no whole number of times.
        room = Room(2, [[2, 4]])
        self.assertFalse(self.check_pair(room, [1, 2], [0, 0]))
        self.assertTrue(self.check_pair(room, [2, 4], [0, 0]))
        self.assertFalse(self.check_pair(room, [2, 3], [0, 0]))

    def test_a_sum_is_alike_with_itself(self):
        for letters, rows in some_rooms(21, 60):
            room = Room(letters, rows)
            one = list(range(letters))
            self.assertTrue(self.check_pair(room, one, list(one)))
            self.assertTrue(self.check_pair(room, one, one))

    def test_just_those_that_determinants_tell_to_be_alike(self):
        chance = random.Random(31)
        for letters, rows in some_rooms(3, 250):
            room = Room(letters, rows)
            for _ in range(6):
                one, other = some_sum(chance, letters, 5), some_sum(chance, letters, 5)
                alike = alike_by_minors(letters, rows, one, other)
                self.assertEqual(self.check_pair(room, one, other), alike, (letters, rows, one, other))
                self.assertEqual(self.check_pair(room, other, one), alike)

    def test_all_sums_near_by(self):
        for rows in ([[2, 0], [0, 4]], [[2, 2], [1, -3]], [[3, 3]], [[2, 4], [3, 6]], [[0, 0]], [[5, 0]]):
            room = Room(2, rows)
            for one in box(2, 4):
                self.assertEqual(self.check_pair(room, one, [1, -1]), alike_by_minors(2, rows, one, [1, -1]))

    def test_put_together_of_nothings(self):
        chance = random.Random(32)
        for letters, rows in some_rooms(4, 200, 6, 16, 30):
            room = Room(letters, rows)
            one = some_sum(chance, letters, 50)
            other = plus(one, woven([chance.randint(-9, 9) for _ in rows], rows, letters))
            self.assertTrue(self.check_pair(room, one, other))
            self.assertTrue(self.check_pair(room, other, one))

    def test_alike_goes_with_putting_together(self):
        chance = random.Random(33)
        for letters, rows in some_rooms(5, 80, 3, 4, 4):
            room = Room(letters, rows)
            one, other, third = [some_sum(chance, letters, 4) for _ in range(3)]
            self.assertEqual(room.alike(one, other), room.alike(plus(one, third), plus(other, third)))
            if room.alike(one, other):
                self.assertTrue(room.alike(times(-3, one), times(-3, other)))


class ShownAndApart(RoomChecks, unittest.TestCase):

    def test_no_letters(self):
        self.assertEqual(Room(0).shown([], []), [])
        for many in (0, 1, 3, 16):
            room = Room(0, [[] for _ in range(many)])
            self.assertIs(room.alike([], []), True)
            self.check_shown(room, [], [])
            self.assertIsNone(room.apart([], []))

    def test_no_nothings(self):
        room = Room(3)
        self.assertEqual(room.shown([1, 2, 3], [1, 2, 3]), [])
        self.assertIsNone(room.apart([1, 2, 3], [1, 2, 3]))
        self.check_pairs(room, [[0, 0, 0], [1, 2, 3], [1, 2, 4], [-1, 0, 0]])
        self.check_apart(room, [1, 2, 3], [1, 2, 4])

    def test_nothings_of_noughts_alone(self):
        for many in (1, 2, 16):
            room = Room(2, [[0, 0]] * many)
            self.check_pairs(room, [[0, 0], [1, 0], [0, -1], [7, 7]])
            self.check_shown(room, [5, 6], [5, 6])
            self.assertIsNone(room.shown([5, 6], [5, 7]))

    def test_noughts_among_the_nothings(self):
        room = Room(2, [[0, 0], [4, 0], [0, 0], [0, 6], [0, 0]])
        self.check_pairs(room, box(2, 2) + [[4, 6], [-4, 12], [8, 1]])

    def test_the_same_nothing_twice(self):
        room = Room(2, [[2, 3], [2, 3], [-2, -3]])
        self.check_pairs(room, [[0, 0], [2, 3], [-4, -6], [1, 1], [4, 5]])

    def test_letters_that_are_nothing(self):
        room = Room(2, [[1, 0], [0, 1]])
        self.check_pairs(room, [[0, 0], [3, 4], [-9, 2]])
        self.assertEqual(room.shown([3, 4], [0, 6]), [3, -2])

    def test_a_gauge_of_number_nought_and_one_of_two_and_more(self):
        room = Room(2, [[2, 0]])
        self.check_apart(room, [1, 0], [0, 0])
        self.check_apart(room, [0, 1], [0, 0])
        self.check_apart(room, [2, 10 ** 20], [0, 0])
        self.check_apart(room, [0, 10 ** 20], [0, 10 ** 20 - 2])
        self.check_apart(Room(1, [[2]]), [3], [0])
        self.check_apart(Room(1, [[0]]), [3], [0])

    def test_a_gauge_weighs_alike_sums_alike(self):
        chance = random.Random(35)
        for letters, rows in some_rooms(6, 120):
            room = Room(letters, rows)
            one, other = some_sum(chance, letters, 9), some_sum(chance, letters, 9)
            gauge = room.apart(one, other)
            if gauge is not None:
                weights, number = gauge
                alike = woven([chance.randint(-9, 9) for _ in rows], rows, letters)
                self.assertTrue(goes_into(number, weighs(alike, weights)))

    def test_both_orders_of_the_sums(self):
        room = Room(3, [[2, 4, 4], [-6, 6, 12], [10, 4, 16]])
        for one, other in (([1, 2, 3], [3, 2, 1]), ([0, 0, 0], [6, 14, 32]), ([2, 4, 4], [0, 0, 0])):
            self.assertEqual(self.check_pair(room, one, other), self.check_pair(room, other, one))

    def test_each_of_two_has_just_one_of_both(self):
        chance = random.Random(36)
        found = {True: 0, False: 0}
        for letters, rows in some_rooms(7, 300, 6, 8, 9):
            room = Room(letters, rows)
            one, other = some_sum(chance, letters, 20), some_sum(chance, letters, 20)
            found[self.check_pair(room, one, other)] += 1
        self.assertGreater(found[True], 20)
        self.assertGreater(found[False], 20)


class Refused(unittest.TestCase):

    def test_the_first_and_the_second_sum(self):
        room = Room(2, [[2, 3]])
        for call in (room.alike, room.shown, room.apart):
            for bad in (None, [], [1], [1, 2, 3], [1, True], (1, 2), "12", {0: 1, 1: 2}, [1, 2.0], [[1], [2]]):
                for handed in ((bad, [1, 2]), ([1, 2], bad), (bad, bad), (bad, None), (None, bad)):
                    with self.assertRaises(BadSum):
                        call(*handed)

    def test_rooms_of_no_letters_and_no_nothings(self):
        for room in (Room(0), Room(0, [[]])):
            for call in (room.alike, room.shown, room.apart):
                for handed in (([0], []), ([], [0]), ([], None), ((), [])):
                    with self.assertRaises(BadSum):
                        call(*handed)
        with self.assertRaises(BadSum):
            Room(2).shown([1, 2], [1])


if __name__ == "__main__":
    unittest.main()
