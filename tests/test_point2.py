"""Point 2: letters, sums, nothings, and their limits; the refusals of Room, put and take, in order."""

import unittest

from sumroom.errors import BadLetters, BadSum, NoNothing, TooMany
from sumroom.rooms import Room
from tests.checks import RefusalChecks
from tests.oracle import FAR


class Letters(RefusalChecks, unittest.TestCase):

    def test_none_to_six(self):
        for letters in range(7):
            room = Room(letters)
            self.assertEqual(room.letters(), letters)
            self.assertEqual(room.nothings(), [])
            self.assertEqual(room.spot([1] * letters), room.spot([1] * letters))
            self.refused(BadSum, room.spot, [1] * (letters + 1))

    def test_just_outside_and_further(self):
        for letters in (-1, 7, 8, -7, 10 ** 30, -10 ** 30):
            self.refused(BadLetters, Room, letters)
            self.refused(BadLetters, Room, letters, [])
            self.refused(BadLetters, Room, letters, [[0] * 7])

    def test_no_letters(self):
        room = Room(0, [[], []])
        self.assertEqual(room.nothings(), [[], []])
        self.assertEqual(room.put([]), 2)
        room.take(0)
        self.assertEqual(room.nothings(), [[], []])
        self.refused(BadSum, room.put, [0])
        self.refused(BadSum, Room, 0, [[0]])


class Nothings(RefusalChecks, unittest.TestCase):

    def test_no_list_and_none_and_an_empty_one(self):
        for room in (Room(2), Room(2, None), Room(2, []), Room(letters=2, nothings=None)):
            self.assertEqual(room.nothings(), [])
            self.assertEqual(room.kinds(), [0, 0])
            self.assertEqual(room.put([1, 1]), 0)

    def test_they_stand_in_their_order(self):
        rows = [[3, 1], [0, 0], [-2, 7], [3, 1]]
        self.assertEqual(Room(2, rows).nothings(), rows)
        self.assertEqual(Room(2, rows[::-1]).nothings(), rows[::-1])

    def test_two_may_be_the_same(self):
        room = Room(2, [[4, 2], [4, 2]])
        self.assertEqual(room.nothings(), [[4, 2], [4, 2]])
        self.assertEqual(room.kinds(), Room(2, [[4, 2]]).kinds())
        self.assertEqual(room.put([4, 2]), 2)
        room.take(0)
        self.assertEqual(room.nothings(), [[4, 2], [4, 2]])
        self.assertTrue(room.alike([4, 2], [0, 0]))

    def test_sixteen_and_seventeen(self):
        rows = [[at, 1] for at in range(17)]
        room = Room(2, rows[:16])
        self.assertEqual(room.nothings(), rows[:16])
        self.refused(TooMany, Room, 2, rows)
        self.refused(TooMany, Room, 2, [[0, 0]] * 17)
        self.refused(TooMany, Room, 2, rows * 3)
        self.refused(TooMany, Room, 0, [[]] * 17)
        self.refused(TooMany, room.put, [5, 5])
        self.refused(TooMany, room.put, [0, 0])
        self.assertEqual(room.nothings(), rows[:16])
        room.take(3)
        self.assertEqual(room.put([5, 5]), 15)
        self.refused(TooMany, room.put, [5, 5])
        self.assertEqual(len(Room(2, rows[:15]).nothings()), 15)
        self.assertEqual(Room(2, rows[:15]).put([9, 9]), 15)

    def test_numbers_at_the_ends_and_just_outside(self):
        for at in range(3):
            for number in (FAR, -FAR, FAR - 1, 1 - FAR, 0):
                row = [1, 1, 1]
                row[at] = number
                self.assertEqual(Room(3, [[1, 2, 3], row]).nothings(), [[1, 2, 3], row])
                room = Room(3, [[1, 2, 3]])
                self.assertEqual(room.put(row), 1)
                self.assertEqual(room.nothings(), [[1, 2, 3], row])
            for number in (FAR + 1, -FAR - 1, 10 ** 13, -10 ** 40):
                row = [1, 1, 1]
                row[at] = number
                self.refused(BadSum, Room, 3, [[1, 2, 3], row])
                self.refused(BadSum, Room, 3, [row])
                room = Room(3, [[1, 2, 3]])
                self.refused(BadSum, room.put, row)
                self.assertEqual(room.nothings(), [[1, 2, 3]])

    def test_sums_that_are_asked_about_have_no_such_ends(self):
        room = Room(2, [[FAR, 0], [0, -FAR]])
        far = [FAR * FAR + 1, -FAR - 1]
        self.assertTrue(room.alike(far, [1, FAR - 1]))
        self.assertEqual(room.shown(far, [1, -1]), [FAR, 1])
        self.assertIsNone(room.apart(far, [1, -1]))
        self.assertEqual(room.order(far), FAR)
        self.assertEqual(room.spot(far), room.spot([1, -1]))

    def test_each_sum_has_a_number_for_each_letter(self):
        for row in ([], [1], [1, 2, 3], [[1, 2]]):
            self.refused(BadSum, Room, 2, [row])
            self.refused(BadSum, Room, 2, [[1, 2], row])
            self.refused(BadSum, Room(2).put, row)


class PutAndTake(RefusalChecks, unittest.TestCase):

    def test_put_stands_behind_all_others_and_tells_its_number(self):
        room = Room(2, [[9, 9]])
        self.assertEqual([room.put([at, -at]) for at in range(15)], list(range(1, 16)))
        self.assertEqual(room.nothings(), [[9, 9]] + [[at, -at] for at in range(15)])

    def test_take_lets_those_behind_have_a_number_less(self):
        room = Room(1, [[10], [11], [12], [13]])
        self.assertIsNone(room.take(1))
        self.assertEqual(room.nothings(), [[10], [12], [13]])
        room.take(2)
        self.assertEqual(room.nothings(), [[10], [12]])
        room.take(0)
        self.assertEqual(room.nothings(), [[12]])
        self.assertEqual(room.put([7]), 1)
        room.take(0)
        self.assertEqual(room.nothings(), [[7]])
        room.take(0)
        self.assertEqual(room.nothings(), [])

    def test_take_of_no_such_number(self):
        room = Room(1, [[10], [11]])
        for number in (-1, -2, 2, 3, 16, 10 ** 20):
            self.refused(NoNothing, room.take, number)
        self.assertEqual(room.nothings(), [[10], [11]])
        for number in (0, -1, 1):
            self.refused(NoNothing, Room(1).take, number)


class SeveralDue(RefusalChecks, unittest.TestCase):

    def test_letters_before_sums_before_too_many(self):
        for letters in (-1, 7, None, True, "2"):
            self.refused(BadLetters, Room, letters, "no list")
            self.refused(BadLetters, Room, letters, [[1, None]])
            self.refused(BadLetters, Room, letters, [[1, 2]] * 17)
            self.refused(BadLetters, Room, letters, [[None]] * 17)

    def test_sums_before_too_many(self):
        for bad in ([1], [1, 2, 3], [1, True], [FAR + 1, 0], None):
            self.refused(BadSum, Room, 2, [[1, 2]] * 16 + [bad])
            self.refused(BadSum, Room, 2, [bad] + [[1, 2]] * 16)
            self.refused(BadSum, Room, 2, [bad] * 17)

    def test_put_tells_the_sum_before_too_many(self):
        room = Room(2, [[1, 2]] * 16)
        for bad in ([1], [1, 2, 3], [1, True], [0, -FAR - 1], None, "ab"):
            self.refused(BadSum, room.put, bad)
        self.refused(TooMany, room.put, [1, 2])
        self.assertEqual(room.nothings(), [[1, 2]] * 16)


if __name__ == "__main__":
    unittest.main()
