"""Point 8: what a way leaves out, how it is put together, and the left kinds."""

import random
import unittest

from sumroom.errors import BadSum
from sumroom.rooms import Room
from sumroom.ways import Way
from tests.checks import WayChecks
from tests.oracle import FAR, alike_by_minors, box, determinant, product_of, some_sum, some_ways, times, units, woven


class LeftOut(WayChecks, unittest.TestCase):

    def test_one_letter(self):
        for kind in range(0, 13):
            for number in range(-12, 13):
                other = Room(1, [[kind]])
                way = Way(Room(1), other, [[number]])
                self.check_left_out(way, Room(1))
                for one in box(1, 13):
                    left = self.check_sent(way, Room(1), other, [[number]], one)
                    image = one[0] * number
                    self.assertEqual(left, image % kind == 0 if kind else image == 0)

    def test_known_ways(self):
        for one, other, sums, left in (
                ((2, []), (1, []), [[2], [-3]], [[3, 2]]),
                ((2, []), (1, []), [[0], [5]], [[1, 0]]),
                ((3, []), (1, []), [[1], [1], [1]], [[1, 0, -1], [0, 1, -1]]),
                ((1, []), (1, []), [[5]], []),
                ((2, []), (2, []), [[1, 2], [3, 4]], []),
                ((2, []), (1, [[6]]), [[2], [3]], [[3, 0], [0, 2]]),
                ((2, []), (2, [[2, 0], [0, 2]]), [[1, 1], [1, 1]], [[1, 1], [0, 2]])):
            way = Way(Room(*one), Room(*other), sums)
            self.check_left_out(way, Room(*one))
            self.assertEqual(len(way.left_out()), len(left))
            for row in left:
                self.assertIsNotNone(way.left_as(row), row)
            # What is left out is not put together of more than the known ones either.
            known = Room(one[0], left)
            for row in way.left_out():
                self.assertTrue(known.alike(row, [0] * one[0]), (row, left))

    def test_all_sums_near_by(self):
        found = {True: 0, False: 0}
        for one, other, sums in some_ways(801, 80, 3, 3, 3):
            way, first, second = Way(Room(*one), Room(*other), sums), Room(*one), Room(*other)
            self.check_left_out(way, first)
            for some in box(one[0], 2):
                left = alike_by_minors(*other, woven(some, sums, other[0]), [0] * other[0])
                self.assertEqual(self.check_sent(way, first, second, sums, some), left)
                found[left] += 1
        self.assertGreater(min(found.values()), 500)

    def test_sums_put_together_of_left_out_are_told_as_they_were_put(self):
        chance = random.Random(802)
        for one, other, sums in some_ways(803, 150, 6, 5, 9):
            way = Way(Room(*one), Room(*other), sums)
            rows = way.left_out()
            for far in (1, 9, 10 ** 20):
                many = some_sum(chance, len(rows), far)
                self.assertEqual(way.left_as(woven(many, rows, one[0])), many)

    def test_nothings_of_the_first_room_are_left_out(self):
        for one, other, sums in some_ways(804, 100, 5, 5, 5):
            first, second = Room(*one), Room(*other)
            way = Way(first, second, sums)
            for row in one[1]:
                self.assertTrue(self.check_sent(way, first, second, sums, row))

    def test_a_sum_is_left_out_by_the_order_of_its_image(self):
        chance = random.Random(805)
        found = 0
        for one, other, sums in some_ways(806, 150, 4, 4, 4):
            first, second = Room(*one), Room(*other)
            way = Way(first, second, sums)
            some = some_sum(chance, one[0], 5)
            order = second.order(way.image(some))
            for many in range(1, min(order or 20, 20)):
                self.assertIsNone(way.left_as(times(many, some)))
            if order is not None:
                found += 1
                self.assertTrue(self.check_sent(way, first, second, sums, times(order, some)))
        self.assertGreater(found, 60)

    def test_no_more_than_letters_and_all_of_them(self):
        for letters in range(7):
            way = Way(Room(letters), Room(1), [[0]] * letters)
            self.assertEqual(len(way.left_out()), letters)
            self.assertEqual(abs(determinant(way.left_out())), 1)
            for one in box(letters, 1):
                self.assertEqual(woven(way.left_as(one), way.left_out(), letters), one)
            way = Way(Room(letters), Room(letters), units(letters))
            self.assertEqual(way.left_out(), [])
            self.assertEqual(way.left_as([0] * letters), [])

    def test_as_many_reached_as_what_is_left_out_leaves(self):
        for one, other, sums in some_ways(807, 100, 4, 6, 4):
            way = Way(Room(*one), Room(*other), sums)
            rows = way.left_out()
            if len(rows) == one[0]:
                self.assertEqual(abs(determinant(rows)), product_of(way.reached_kinds()))

    def test_what_is_no_sum_of_the_first_room(self):
        way = Way(Room(2), Room(3), [[1, 0, 0], [0, 1, 0]])
        for one in (None, [], [1], [1, 2, 3], [1, True], [1, 2.0], (0, 0), "00", {0: 0, 1: 0}, [[0], [0]], 0):
            with self.assertRaises(BadSum):
                way.left_as(one)
        for one in ([0], None, (), "", {}):
            with self.assertRaises(BadSum):
                Way(Room(0), Room(0), []).left_as(one)


class LeftKinds(WayChecks, unittest.TestCase):

    def test_known_ways(self):
        for one, other, sums, kinds in (
                ((1, [[12]]), (1, [[12]]), [[1]], []),
                ((1, [[12]]), (1, [[12]]), [[4]], [4]),
                ((1, [[12]]), (1, [[12]]), [[0]], [12]),
                ((1, [[12]]), (1, [[6]]), [[1]], [2]),
                ((1, []), (1, [[6]]), [[1]], [0]),
                ((2, [[4, 0], [0, 6]]), (1, [[12]]), [[3], [2]], [2]),
                ((2, [[4, 0], [0, 4]]), (1, [[2]]), [[1], [1]], [2, 4]),
                ((2, [[4, 0], [0, 4]]), (2, [[2, 0], [0, 2]]), [[1, 0], [0, 1]], [2, 2]),
                ((3, [[2, 0, 0]]), (1, []), [[0], [1], [1]], [2, 0]),
                ((3, []), (1, []), [[0], [1], [1]], [0, 0]),
                ((2, [[0, 0]]), (2, []), [[1, 2], [3, 4]], []),
                ((0, [[]]), (2, []), [], [])):
            self.assertEqual(Way(Room(*one), Room(*other), sums).left_kinds(), kinds, (one, other, sums))

    def test_the_kinds_of_a_room_of_what_is_left_out(self):
        for one, other, sums in some_ways(811, 200, 4, 5, 5):
            first = Room(*one)
            way = Way(first, Room(*other), sums)
            rows = [way.left_as(row) for row in one[1]]
            self.assertEqual(way.left_kinds(), Room(len(way.left_out()), rows).kinds())
            self.check_all_kinds(way, first, Room(*other), sums)

    def test_as_many_as_are_unlike_in_the_first_room(self):
        for letters, rows in ((1, [[12]]), (2, [[2, 0], [0, 4]]), (2, [[3, 0], [0, 3]]), (2, [[2, 1], [0, 5]])):
            first = Room(letters, rows)
            for number in range(12):
                other = Room(1, [[number]] + [[number + row[0]] for row in rows])
                sums = [[row[0]] for row in units(letters)]
                way = Way(first, other, sums)
                left = [one for one in box(letters, 12) if way.left_as(one) is not None]
                spots = {tuple(first.spot(one)) for one in left}
                self.assertEqual(len(spots), product_of(way.left_kinds()), (rows, number))

    def test_numbers_at_the_ends(self):
        way = Way(Room(2, [[FAR, 0], [0, FAR]]), Room(1, [[FAR]]), [[1], [-FAR]])
        self.assertEqual(way.left_kinds(), [FAR])
        way = Way(Room(2, [[FAR, -FAR]]), Room(1, [[FAR]]), [[FAR], [-FAR]])
        self.assertEqual(way.left_kinds(), [FAR, 0])


if __name__ == "__main__":
    unittest.main()
