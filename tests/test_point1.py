"""Point 1: whole numbers, what is handed in, what is told, refusals, and the same told each time."""

import copy
import random
import unittest

from sumroom.errors import BadLetters, BadSpot, BadSum, NoNothing
from sumroom.rooms import Room
from tests.checks import RefusalChecks
from tests.oracle import ODD_THINGS, some_rooms, some_sum, told, woven

ROWS = [[4, 0, 6], [0, 6, 2], [2, 2, 2], [0, 0, 0]]
SUMS = [[0, 0, 0], [1, 0, 0], [2, 2, 2], [-3, 5, 8], [4, 6, 8]]


class HandedIn(unittest.TestCase):

    def test_the_list_of_nothings_is_neither_changed_nor_kept(self):
        rows = copy.deepcopy(ROWS)
        room = Room(3, rows)
        first = told(Room(3, copy.deepcopy(ROWS)), SUMS)
        self.assertEqual(rows, ROWS)
        rows[0][1] = 77
        rows[1].append(1)
        rows.append([1, 1, 1])
        del rows[2]
        self.assertEqual(told(room, SUMS), first)
        rows.clear()
        self.assertEqual(told(room, SUMS), first)

    def test_one_list_that_stands_there_twice(self):
        row = [2, 0]
        room = Room(2, [row, row])
        row[1] = 5
        self.assertEqual(room.nothings(), [[2, 0], [2, 0]])

    def test_what_is_put_is_neither_changed_nor_kept(self):
        one = [3, 3, 3]
        room = Room(3, ROWS)
        room.put(one)
        self.assertEqual(one, [3, 3, 3])
        one[0] = 1
        one.append(4)
        self.assertEqual(room.nothings(), ROWS + [[3, 3, 3]])
        self.assertEqual(told(room, SUMS), told(Room(3, ROWS + [[3, 3, 3]]), SUMS))

    def test_sums_and_spots_asked_about_are_not_changed(self):
        room = Room(3, ROWS)
        one, other, spot = [5, 6, 7], [-1, 0, 2], [kind - 1 if kind else 9 for kind in room.kinds()]
        kept = list(spot)
        room.spot(one), room.order(one), room.sum_at(spot)
        room.alike(one, other), room.shown(one, other), room.apart(one, other)
        room.shown(one, one), room.apart(one, one)
        self.assertEqual((one, other, spot), ([5, 6, 7], [-1, 0, 2], kept))

    def test_sums_and_spots_asked_about_are_not_kept(self):
        room = Room(2)
        one = [3, 4]
        spot = room.spot(one)
        back = room.sum_at(spot)
        self.assertIsNot(spot, one)
        self.assertIsNot(back, spot)
        one[0] = 9
        self.assertEqual(room.sum_at(spot), back)
        spot[0] = 9
        self.assertEqual(back, [3, 4])
        self.assertEqual(room.spot([3, 4]), Room(2).spot([3, 4]))


class Told(unittest.TestCase):

    def test_what_is_told_may_be_changed_by_the_asker(self):
        for rows in (ROWS, ROWS[:2], [], [[0, 0, 0]]):
            room = Room(3, rows)
            # A copy: what is told could be the room's own.
            first = copy.deepcopy(told(room, SUMS))
            for _ in range(2):
                nothings = room.nothings()
                for row in nothings:
                    row[0] += 1
                    row.append(5)
                nothings.append(7)
                for found in (room.kinds(), room.spot([1, 2, 3]), room.sum_at(room.spot([1, 2, 3])),
                              room.shown([0, 0, 0], [0, 0, 0]), room.sum_at([0] * len(room.kinds()))):
                    found.append(11)
                    found[0] = 99
                gauge = room.apart([1, 0, 0], [0, 0, 0])
                gauge[0][0] += 1
                gauge[0].append(3)
                self.assertEqual(told(room, SUMS), first)
                room.put([1, 2, 3])
                room.take(len(rows))
                self.assertEqual(told(room, SUMS), first)

    def test_what_was_told_is_not_changed_by_what_is_done_later(self):
        room = Room(3, ROWS)
        kept = told(room, SUMS)
        again = copy.deepcopy(kept)
        room.put([1, 2, 3])
        room.take(0)
        told(room, SUMS)
        self.assertEqual(kept, again)

    def test_two_rooms_do_not_share_anything(self):
        rows = [[2, 4], [6, 8]]
        one, other = Room(2, rows), Room(2, rows)
        one.put([1, 1])
        one.take(0)
        self.assertEqual(other.nothings(), [[2, 4], [6, 8]])
        self.assertEqual(other.kinds(), [2, 4])
        self.assertEqual(Room(2).nothings(), [])


class SameTold(unittest.TestCase):

    def test_the_same_however_a_room_came_to_its_nothings(self):
        chance = random.Random(11)
        for letters, rows in some_rooms(1, 150):
            sums = [some_sum(chance, letters, 9) for _ in range(3)]
            sums.append(woven([chance.randint(-3, 3) for _ in rows], rows, letters))
            made = Room(letters, rows)
            first = told(made, sums)
            self.assertEqual(told(made, sums), first)
            self.assertEqual(told(Room(letters, rows), sums), first)
            grown = Room(letters)
            for at, row in enumerate(rows):
                grown.kinds()
                self.assertEqual(grown.put(row), at)
            self.assertEqual(told(grown, sums), first)
            for at in range(len(rows) + 1):
                extra = some_sum(chance, letters, 6)
                longer = Room(letters, rows[:at] + [extra] + rows[at:])
                told(longer, sums)
                longer.take(at)
                self.assertEqual(told(longer, sums), first)

    def test_put_and_take_are_told_at_once(self):
        room = Room(1, [[12]])
        self.assertEqual((room.kinds(), room.count(), room.order([1])), ([12], 12, 12))
        room.put([8])
        self.assertEqual((room.kinds(), room.count(), room.order([1])), ([4], 4, 4))
        self.assertTrue(room.alike([4], [0]))
        room.take(0)
        self.assertEqual((room.kinds(), room.count(), room.order([1])), ([8], 8, 8))
        self.assertFalse(room.alike([4], [0]))
        room.take(0)
        self.assertEqual((room.kinds(), room.count(), room.order([1])), ([0], None, None))
        self.assertEqual(room.shown([3], [3]), [])


class Refusals(RefusalChecks, unittest.TestCase):

    def setUp(self):
        self.room = Room(2, [[4, 2], [0, 6]])
        self.before = copy.deepcopy(told(self.room, [[0, 0], [1, 2], [4, 8]]))

    def tearDown(self):
        self.assertEqual(told(self.room, [[0, 0], [1, 2], [4, 8]]), self.before)

    def test_letters_of_any_kind(self):
        for thing in ODD_THINGS + [[], [2]]:
            self.refused(BadLetters, Room, thing)
            self.refused(BadLetters, Room, thing, [[1, 2]])

    def test_nothings_of_any_kind(self):
        for thing in ODD_THINGS + [0, 2, [0, 0], [1, 2]]:
            if thing is not None:
                self.refused(BadSum, Room, 2, thing)
        for thing in ODD_THINGS + [0, 2, [], [1], [1, 2, 3], [[1, 2]]]:
            self.refused(BadSum, Room, 2, [thing])
            self.refused(BadSum, Room, 2, [thing, [1, 2]])
            self.refused(BadSum, Room, 2, [[1, 2], thing])

    def test_numbers_in_nothings_of_any_kind(self):
        for thing in ODD_THINGS + [[], [1]]:
            self.refused(BadSum, Room, 2, [[1, 2], [thing, 1]])
            self.refused(BadSum, Room, 2, [[1, thing], [1, 2]])

    def test_sums_of_any_kind(self):
        for thing in ODD_THINGS + [0, 2, [], [1], [1, 2, 3], [[1, 2]]]:
            self.refused(BadSum, self.room.put, thing)
            self.refused(BadSum, self.room.spot, thing)
            self.refused(BadSum, self.room.order, thing)
            for call in (self.room.alike, self.room.shown, self.room.apart):
                self.refused(BadSum, call, thing, [1, 2])
                self.refused(BadSum, call, [1, 2], thing)
                self.refused(BadSum, call, thing, thing)

    def test_numbers_in_sums_of_any_kind(self):
        for thing in ODD_THINGS + [[], [1]]:
            for one in ([thing, 1], [1, thing]):
                for call in (self.room.put, self.room.spot, self.room.order):
                    self.refused(BadSum, call, one)
                for call in (self.room.alike, self.room.shown, self.room.apart):
                    self.refused(BadSum, call, one, [1, 2])
                    self.refused(BadSum, call, [1, 2], one)

    def test_numbers_of_nothings_of_any_kind(self):
        for thing in ODD_THINGS + [[], [0], -1, 2, 10 ** 30, -10 ** 30]:
            self.refused(NoNothing, self.room.take, thing)

    def test_spots_of_any_kind(self):
        self.assertEqual(self.room.kinds(), [2, 12])
        for thing in ODD_THINGS + [0, [], [1], [1, 2, 3], [[1, 2]]]:
            self.refused(BadSpot, self.room.sum_at, thing)
        for thing in ODD_THINGS + [[], [0]]:
            self.refused(BadSpot, self.room.sum_at, [0, thing])
            self.refused(BadSpot, self.room.sum_at, [thing, 0])

    def test_true_and_false_are_no_whole_numbers(self):
        self.refused(BadLetters, Room, True)
        self.refused(BadLetters, Room, False)
        self.refused(BadSum, Room, 1, [[True]])
        self.refused(BadSum, Room(1).put, [False])
        self.refused(BadSum, Room(1).spot, [True])
        self.refused(BadSum, Room(1).order, [False])
        self.refused(BadSum, Room(1).alike, [True], [1])
        self.refused(BadSum, Room(1).shown, [0], [False])
        self.refused(BadSum, Room(1).apart, [True], [False])
        self.refused(NoNothing, Room(1, [[1], [2]]).take, True)
        self.refused(NoNothing, Room(1, [[1], [2]]).take, False)
        self.refused(BadSpot, Room(1).sum_at, [True])
        self.refused(BadSpot, Room(1, [[2]]).sum_at, [False])


class ManyFigures(unittest.TestCase):

    def test_sums_with_numbers_of_many_figures(self):
        room = Room(3, [[10 ** 12, 7, 0], [3, -10 ** 12, 1], [0, 9, 10 ** 12]])
        far = 10 ** 3900 + 1234567
        one = [far, -far * 3, 5 - far]
        spot = room.spot(one)
        self.assertTrue(all(0 <= place < kind for place, kind in zip(spot, room.kinds())))
        self.assertTrue(room.alike(room.sum_at(spot), one))
        many = [far, 3 - far, 2 * far]
        other = woven(many, room.nothings(), 3)
        self.assertTrue(room.alike(other, [0, 0, 0]))
        self.assertEqual(room.shown(other, [0, 0, 0]), many)
        self.assertEqual(room.order(other), 1)
        weights, number = room.apart([far + 1, 0, 0], [far, 0, 0])
        self.assertNotEqual(weights[0] % number, 0)
        free = Room(1, [])
        self.assertEqual(free.sum_at(free.spot([far])), [far])
        self.assertTrue(free.alike(free.sum_at([-far]), free.sum_at([-far])))


if __name__ == "__main__":
    unittest.main()
