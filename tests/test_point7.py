"""Point 7: ways from room to room: what a way is made of, what it goes by, and where sums go."""

import random
import unittest

from sumroom.errors import BadSum, NoWay
from sumroom.rooms import Room
from sumroom.ways import Way
from tests.checks import RefusalChecks, WayChecks
from tests.oracle import (FAR, alike_by_minors, plus, some_rooms, some_sum, some_ways, times, told_by_way, units,
                          woven)


class RefusedCase(RefusalChecks, unittest.TestCase):

    def no_way(self, one, other, sums, at):
        found = self.refused(NoWay, Way, one, other, sums)
        self.assertIs(type(found.at), int)
        self.assertEqual(found.at, at)


class Sums(RefusedCase):

    def test_as_many_as_the_first_room_has_letters(self):
        one, other = Room(2), Room(3)
        for sums in ([], [[1, 2, 3]], [[1, 2, 3]] * 3, [[1, 2]] * 3, [[1, 2], [3, 4]], [[1, 2, 3], [4, 5]],
                     [[1, 2, 3], [4, 5, 6, 7]], [[1, 2, 3], []], [[1, 2, 3], 4], [1, 2], [[1, 2, 3], [1, True, 3]],
                     [[1, 2, 3], (4, 5, 6)], ([1, 2, 3], [4, 5, 6]), [[1, 2, 3], None], None, {}, "ab", 2, True):
            self.refused(BadSum, Way, one, other, sums)
        self.assertEqual(Way(one, other, [[1, 2, 3], [4, 5, 6]]).image([1, 1]), [5, 7, 9])

    def test_each_room_has_its_own_number_of_letters(self):
        for letters in range(7):
            for width in range(7):
                sums = [[at + place for place in range(width)] for at in range(letters)]
                way = Way(Room(letters), Room(width), sums)
                self.assertEqual([way.image(one) for one in units(letters)], sums)
                self.refused(BadSum, Way, Room(letters), Room(width), sums + [[0] * width])
                if letters:
                    self.refused(BadSum, Way, Room(letters), Room(width), sums[1:])
                    self.refused(BadSum, Way, Room(letters), Room(width), sums[1:] + [[0] * (width + 1)])

    def test_numbers_at_the_ends_and_just_outside(self):
        for at in range(2):
            for place in range(2):
                for number in (FAR, -FAR, FAR - 1, 1 - FAR):
                    sums = [[1, 2], [3, 4]]
                    sums[at][place] = number
                    way = Way(Room(2), Room(2), sums)
                    self.assertEqual([way.image(one) for one in units(2)], sums)
                for number in (FAR + 1, -FAR - 1, 10 ** 13, -10 ** 40):
                    sums = [[1, 2], [3, 4]]
                    sums[at][place] = number
                    self.refused(BadSum, Way, Room(2), Room(2), sums)

    def test_sums_that_are_asked_about_have_no_such_ends(self):
        way = Way(Room(2), Room(2, [[FAR, 0]]), [[FAR, 0], [1, -FAR]])
        self.assertEqual(way.image([FAR + 1, -FAR - 5]), [FAR * (FAR + 1) - FAR - 5, FAR * (FAR + 5)])
        self.assertIsNotNone(way.left_as([FAR * FAR, 0]))
        self.assertIsNotNone(way.source([FAR ** 3, 0]))
        self.assertIsNotNone(way.bar([FAR ** 3, 1]))


class Image(WayChecks, unittest.TestCase):

    def test_each_letter_as_many_times_as_it_is_taken(self):
        way = Way(Room(2), Room(3), [[1, 0, -2], [0, 5, 7]])
        self.assertEqual(way.image([0, 0]), [0, 0, 0])
        self.assertEqual(way.image([1, 0]), [1, 0, -2])
        self.assertEqual(way.image([0, 1]), [0, 5, 7])
        self.assertEqual(way.image([3, -2]), [3, -10, -20])

    def test_sums_put_together(self):
        chance = random.Random(701)
        for one, other, sums in some_ways(702, 120):
            way = Way(Room(*one), Room(*other), sums)
            first, second = some_sum(chance, one[0], 99), some_sum(chance, one[0], 99)
            self.assertEqual(way.image(first), woven(first, sums, other[0]))
            self.assertEqual(way.image(plus(first, second)), plus(way.image(first), way.image(second)))
            self.assertEqual(way.image(times(-7, first)), times(-7, way.image(first)))

    def test_alike_sums_go_to_alike_ones(self):
        chance = random.Random(703)
        for one, other, sums in some_ways(704, 120):
            way, room = Way(Room(*one), Room(*other), sums), Room(*other)
            first = some_sum(chance, one[0], 9)
            second = plus(first, woven(some_sum(chance, len(one[1]), 5), one[1], one[0]))
            self.assertTrue(room.alike(way.image(first), way.image(second)))

    def test_what_is_no_sum_of_the_first_room(self):
        way = Way(Room(2), Room(3), [[1, 0, 0], [0, 1, 0]])
        for one in (None, [], [1], [1, 2, 3], [1, True], [1, 2.0], (1, 2), "12", {0: 1, 1: 2}, [[1], [2]], 12):
            with self.assertRaises(BadSum):
                way.image(one)


class NoWays(RefusedCase):

    def test_a_nothing_that_goes_to_something_else(self):
        self.no_way(Room(1, [[1]]), Room(1), [[1]], 0)
        self.no_way(Room(1, [[4]]), Room(1, [[6]]), [[1]], 0)
        self.no_way(Room(1, [[4]]), Room(1, [[6]]), [[2]], 0)
        self.assertEqual(Way(Room(1, [[4]]), Room(1, [[6]]), [[3]]).image([1]), [3])
        self.assertEqual(Way(Room(1, [[4]]), Room(1, [[6]]), [[-6]]).image([1]), [-6])

    def test_the_number_of_the_first_one(self):
        other = Room(1, [[6]])
        self.no_way(Room(1, [[6], [4]]), other, [[1]], 1)
        self.no_way(Room(1, [[4], [6]]), other, [[1]], 0)
        self.no_way(Room(1, [[6], [-12], [0], [4], [5]]), other, [[1]], 3)
        self.no_way(Room(1, [[6], [7], [18], [4]]), other, [[1]], 1)
        self.no_way(Room(1, [[1], [2], [3]]), other, [[1]], 0)
        self.no_way(Room(2, [[0, 0]] * 15 + [[0, 1]]), other, [[2], [3]], 15)

    def test_a_nothing_that_several_others_come_to_is_asked_by_itself(self):
        # 2 and 3 go astray; 12 and 6, which they come to, do not.
        self.no_way(Room(1, [[12], [6], [3], [2]]), Room(1, [[6]]), [[1]], 2)

    def test_just_those_that_determinants_tell(self):
        chance = random.Random(711)
        found = {True: 0, False: 0}
        for wide, rows in some_rooms(712, 400, 3, 3, 4):
            other = chance.randint(0, 3)
            ground = [some_sum(chance, other, 3) for _ in range(chance.randint(0, 4))]
            sums = [some_sum(chance, other, 3) for _ in range(wide)]
            gone = [alike_by_minors(other, ground, woven(row, sums, other), [0] * other) for row in rows]
            found[all(gone)] += 1
            if all(gone):
                Way(Room(wide, rows), Room(other, ground), sums)
            else:
                self.no_way(Room(wide, rows), Room(other, ground), sums, gone.index(False))
        self.assertGreater(min(found.values()), 50)

    def test_the_sums_are_told_first(self):
        one, other = Room(2, [[1, 0], [0, 1]]), Room(2)
        self.no_way(one, other, [[1, 0], [0, 1]], 0)
        for sums in ([[1, 0]], [[1, 0], [0]], [[1, 0], [0, 1, 2]], [[1, 0], [0, FAR + 1]], [[1, 0], [0, True]],
                     [[1, 0], None], None, [[1, 0], [0, 1], [0, 0]], []):
            self.refused(BadSum, Way, one, other, sums)

    def test_what_is_refused_changes_nothing(self):
        one, other = Room(1, [[4]]), Room(1, [[6]])
        self.no_way(one, other, [[1]], 0)
        self.refused(BadSum, Way, one, other, [[1, 2]])
        self.assertEqual((one.nothings(), other.nothings()), ([[4]], [[6]]))
        self.assertEqual((one.kinds(), other.kinds()), ([4], [6]))
        self.assertEqual(Way(one, other, [[3]]).reached_kinds(), [2])


class RoomsAsTheyWere(RefusedCase):

    def told(self, way):
        return told_by_way(way, [[2, 0], [0, 3], [2, 3], [1, 1]], [[0], [3], [4], [6], [11]])

    def test_nothings_put_and_taken_later(self):
        def rooms():
            return Room(2, [[4, 0], [0, 6]]), Room(1, [[12]])

        sums = [[3], [2]]
        first = self.told(Way(*rooms(), sums))
        for change in ("put one", "take one", "put other", "take other", "all"):
            one, other = rooms()
            way = Way(one, other, sums)
            if change in ("put one", "all"):
                one.put([1, 0])
            if change in ("take one", "all"):
                one.take(0)
            if change in ("put other", "all"):
                other.put([1])
            if change in ("take other", "all"):
                other.take(0)
            self.assertEqual(self.told(way), first, change)

    def test_asked_before_and_behind_the_change(self):
        one, other = Room(2, [[4, 0], [0, 6]]), Room(1, [[12]])
        way = Way(one, other, [[3], [2]])
        first = self.told(way)
        other.take(0)
        other.put([5])
        one.take(1)
        one.put([0, 1])
        self.assertEqual(self.told(way), first)

    def test_a_new_way_goes_by_the_rooms_as_they_are(self):
        one, other = Room(1, [[4]]), Room(1, [[12]])
        self.assertEqual(Way(one, other, [[3]]).reached_kinds(), [4])
        other.put([6])
        self.assertEqual(Way(one, other, [[3]]).reached_kinds(), [2])
        one.put([1])
        self.no_way(one, other, [[3]], 1)
        one.take(1)
        other.take(0)
        self.assertEqual(Way(one, other, [[3]]).left_kinds(), [2])
        other.take(0)
        self.no_way(one, other, [[3]], 0)


class AnyRooms(WayChecks, unittest.TestCase):

    def check_way(self, first, other, sums, some, others):
        way = Way(first, other, sums)
        self.check_left_out(way, first)
        for one in some:
            self.check_sent(way, first, other, sums, one)
        for one in others:
            self.check_met(way, first, other, sums, one)
        self.check_all_kinds(way, first, other, sums)
        return way

    def test_from_a_room_of_no_letters(self):
        for nothings in ([], [[]], [[]] * 16):
            for rows in ([], [[2, 0]], [[2, 0], [0, 3]], [[0, 0]]):
                way = self.check_way(Room(0, nothings), Room(2, rows), [], [[]], [[0, 0], [2, 0], [1, 1]])
                self.assertEqual((way.image([]), way.left_out(), way.left_as([])), ([0, 0], [], []))
                self.assertEqual((way.left_kinds(), way.reached_kinds()), ([], []))
                self.assertEqual(way.over_kinds(), Room(2, rows).kinds())
                self.assertEqual(way.source([0, 0]), [])
                self.assertIsNone(way.source([1, 1]))

    def test_to_a_room_of_no_letters(self):
        for nothings in ([], [[]], [[]] * 16):
            for rows in ([], [[2, 0]], [[2, 0], [0, 3]], [[0, 0]]):
                first = Room(2, rows)
                way = self.check_way(first, Room(0, nothings), [[], []], [[0, 0], [2, 0], [5, -1]], [[]])
                self.assertEqual(len(way.left_out()), 2)
                self.assertEqual((way.image([3, 4]), way.bar([])), ([], None))
                self.assertEqual(way.left_kinds(), first.kinds())
                self.assertEqual((way.reached_kinds(), way.over_kinds()), ([], []))

    def test_from_no_letters_to_no_letters(self):
        way = self.check_way(Room(0), Room(0, [[]]), [], [[]], [[]])
        self.assertEqual((way.image([]), way.left_out(), way.left_as([]), way.source([])), ([], [], [], []))
        self.assertEqual((way.left_kinds(), way.reached_kinds(), way.over_kinds()), ([], [], []))

    def test_from_a_room_to_itself(self):
        for rows in ([], [[4, 0], [0, 6]], [[2, 2]], [[0, 0]], [[1, 0], [0, 1]]):
            room = Room(2, rows)
            some = [[0, 0], [1, 0], [2, 2], [4, 6], [-3, 5]]
            way = self.check_way(room, room, units(2), some, some)
            self.assertEqual((way.left_kinds(), way.reached_kinds(), way.over_kinds()), ([], room.kinds(), []))
            way = self.check_way(room, room, [[0, 0], [0, 0]], some, some)
            self.assertEqual((way.left_kinds(), way.reached_kinds(), way.over_kinds()),
                             (room.kinds(), [], room.kinds()))
            way = self.check_way(room, room, [[3, 0], [0, 3]], some, some)
            room.put([1, 1])
            self.assertEqual(way.image([1, 2]), [3, 6])

    def test_rooms_of_one_making(self):
        one, other = Room(1, [[12]]), Room(1, [[12]])
        for number in range(-13, 14):
            told = [told_by_way(Way(first, second, [[number]]), [[3], [4]], [[3], [4]])
                    for first, second in ((one, one), (one, other), (other, one))]
            self.assertEqual(told[1:], told[:1] * 2)

    def test_ways_of_all_widths(self):
        chance = random.Random(721)
        for one, other, sums in some_ways(722, 60, 6, 5, 5):
            some = [some_sum(chance, one[0], 9) for _ in range(4)]
            others = [some_sum(chance, other[0], 9) for _ in range(4)]
            self.check_way(Room(*one), Room(*other), sums, some, others)


if __name__ == "__main__":
    unittest.main()
