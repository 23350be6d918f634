"""Point 9: what a way reaches, sources and bars, and the reached and the over kinds."""

import random
import unittest

from sumroom.errors import BadSum
from sumroom.rooms import Room
from sumroom.ways import Way
from tests.checks import WayChecks, edge_rooms
from tests.oracle import (FAR, alike_by_minors, box, goes_into, minus, plus, product_of, some_sum, some_ways, units,
                          weighs, woven)


class SourceAndBar(WayChecks, unittest.TestCase):

    def test_one_letter(self):
        for kind in range(0, 13):
            for number in range(-6, 7):
                other = Room(1, [[kind]])
                way = Way(Room(1), other, [[number]])
                for one in box(1, 13):
                    reached = self.check_met(way, Room(1), other, [[number]], one)
                    near = [many for many in range(-30, 31) if goes_into(kind, many * number - one[0])]
                    self.assertEqual(reached, near != [])

    def test_all_sums_near_by(self):
        found = {True: 0, False: 0}
        for one, other, sums in some_ways(901, 80, 3, 3, 3):
            way, first, second = Way(Room(*one), Room(*other), sums), Room(*one), Room(*other)
            rows = other[1] + sums
            for some in box(other[0], 2):
                reached = self.check_met(way, first, second, sums, some)
                self.assertEqual(reached, alike_by_minors(other[0], rows, some, [0] * other[0]))
                found[reached] += 1
        self.assertGreater(min(found.values()), 500)

    def test_images_and_what_is_alike_with_them_are_reached(self):
        chance = random.Random(902)
        for one, other, sums in some_ways(903, 150, 6, 5, 9):
            way, first, second = Way(Room(*one), Room(*other), sums), Room(*one), Room(*other)
            image = way.image(some_sum(chance, one[0], 50))
            self.assertTrue(self.check_met(way, first, second, sums, image))
            alike = plus(image, woven(some_sum(chance, len(other[1]), 9), other[1], other[0]))
            self.assertTrue(self.check_met(way, first, second, sums, alike))
            for row in sums + other[1]:
                self.assertTrue(self.check_met(way, first, second, sums, row))

    def test_two_sources_differ_by_what_is_left_out(self):
        chance = random.Random(904)
        for one, other, sums in some_ways(905, 80, 4, 4, 4):
            way = Way(Room(*one), Room(*other), sums)
            some = some_sum(chance, one[0], 30)
            self.assertIsNotNone(way.left_as(minus(way.source(way.image(some)), some)))

    def test_nothing_is_always_reached(self):
        for one, other, sums in some_ways(906, 100, 6, 5, 5):
            way, first, second = Way(Room(*one), Room(*other), sums), Room(*one), Room(*other)
            self.assertTrue(self.check_met(way, first, second, sums, [0] * other[0]))
        for letters in range(7):
            way = Way(Room(0), Room(letters), [])
            self.assertEqual(way.source([0] * letters), [])
            self.assertIsNone(way.bar([0] * letters))

    def test_a_bar_of_number_nought_and_one_of_two_and_more(self):
        room = Room(2, [[0, 6]])
        way = Way(Room(1), room, [[0, 4]])
        for one, reached in (([0, 2], True), ([0, 1], False), ([1, 0], False), ([2, 2], False), ([0, -8], True)):
            self.assertEqual(self.check_met(way, Room(1), room, [[0, 4]], one), reached)
        self.assertEqual(way.bar([0, 3])[1], 2)
        self.assertEqual(way.bar([5, 2])[1], 0)

    def test_a_gauge_of_the_other_room_alone_is_no_bar(self):
        # By weight 1 the number 12 tells 3 from nothing, and does not go into what the way's sum weighs.
        room = Room(1, [[12]])
        way = Way(Room(1, [[4]]), room, [[3]])
        self.assertIsNone(way.bar([3]))
        self.assertEqual([way.bar([number]) is None for number in range(7)], [True, False, False] * 2 + [True])
        weights, number = way.bar([4])
        self.assertTrue(goes_into(number, weighs([3], weights)))

    def test_both_orders_of_asking(self):
        for one, other, sums in some_ways(907, 60, 3, 3, 4):
            first, second = Way(Room(*one), Room(*other), sums), Way(Room(*one), Room(*other), sums)
            for some in box(other[0], 1):
                source, bar = first.source(some), first.bar(some)
                self.assertEqual((second.bar(some), second.source(some)), (bar, source))
                self.assertEqual((first.source(some), first.bar(some)), (source, bar))

    def test_what_is_no_sum_of_the_other_room(self):
        way = Way(Room(3), Room(2), [[1, 0], [0, 1], [1, 1]])
        for one in (None, [], [1], [1, 2, 3], [1, True], [1, 2.0], (0, 0), "00", {0: 0, 1: 0}, [[0], [0]], 0, False):
            for call in (way.source, way.bar):
                with self.assertRaises(BadSum):
                    call(one)
        for one in ([0], None, (), "", {}):
            for call in (Way(Room(0), Room(0), []).source, Way(Room(0), Room(0), []).bar):
                with self.assertRaises(BadSum):
                    call(one)


class ReachedAndOverKinds(WayChecks, unittest.TestCase):

    def test_known_ways(self):
        for one, other, sums, reached, over in (
                ((1, [[12]]), (1, [[12]]), [[1]], [12], []),
                ((1, [[12]]), (1, [[12]]), [[4]], [3], [4]),
                ((1, [[12]]), (1, [[12]]), [[0]], [], [12]),
                ((1, [[12]]), (1, [[12]]), [[5]], [12], []),
                ((1, []), (1, []), [[4]], [0], [4]),
                ((1, []), (1, []), [[0]], [], [0]),
                ((2, []), (1, [[6]]), [[2], [3]], [6], []),
                ((1, []), (2, []), [[2, 2]], [0], [2, 0]),
                ((2, []), (2, [[6, 0]]), [[2, 0], [0, 3]], [3, 0], [6]),
                ((2, [[2, 0], [0, 2]]), (2, [[4, 0], [0, 4]]), [[2, 0], [0, 2]], [2, 2], [2, 2]),
                ((2, [[2, 0], [0, 3]]), (3, [[4, 0, 0], [0, 9, 0]]), [[2, 0, 0], [0, 3, 0]], [6], [6, 0]),
                ((0, []), (2, [[2, 0]]), [], [], [2, 0])):
            way = Way(Room(*one), Room(*other), sums)
            self.assertEqual((way.reached_kinds(), way.over_kinds()), (reached, over), (one, other, sums))
            self.check_all_kinds(way, Room(*one), Room(*other), sums)

    def test_the_over_kinds_are_those_of_a_room_with_the_sums_as_nothings_more(self):
        for one, other, sums in some_ways(911, 200, 4, 5, 5):
            way = Way(Room(*one), Room(*other), sums)
            room = Room(*other)
            for row in sums:
                room.put(row)
            self.assertEqual(way.over_kinds(), room.kinds())

    def test_reached_sums_are_counted_by_their_spots(self):
        found = 0
        for one, other, sums in some_ways(912, 200, 2, 4, 4):
            way, room = Way(Room(*one), Room(*other), sums), Room(*other)
            if room.count() is not None and product_of(way.reached_kinds()) <= 49:
                # Each letter of the first room, taken up to 48 times, goes to all that is reached.
                spots = {tuple(room.spot(way.image(some))) for some in box(one[0], 24)}
                self.assertEqual(len(spots), product_of(way.reached_kinds()))
                found += 1
        self.assertGreater(found, 50)

    def test_kinds_of_both_rooms_fit(self):
        ends = {True: 0, False: 0}
        for one, other, sums in some_ways(913, 300, 5, 8, 3):
            way, first, second = Way(Room(*one), Room(*other), sums), Room(*one), Room(*other)
            self.check_all_kinds(way, first, second, sums)
            ends[first.count() is not None and second.count() is not None] += 1
        self.assertGreater(min(ends.values()), 50)

    def test_a_way_to_and_fro(self):
        room = Room(2, [[4, 2], [0, 6]])
        for sums in ([[0, 1], [1, 0]], [[1, 1], [0, 1]]):
            for rows in ([], room.nothings()):
                other = Room(2, [woven(row, sums, 2) for row in rows])
                way = Way(Room(2, rows), other, sums)
                self.assertEqual((way.left_kinds(), way.over_kinds()), ([], []))
                self.assertEqual(way.reached_kinds(), Room(2, rows).kinds())


class Edges(WayChecks, unittest.TestCase):
    """Six letters, sixteen nothings, numbers as far as they go."""

    def check_far(self, chance, first, other, sums):
        way = Way(first, other, sums)
        self.check_left_out(way, first)
        self.check_row_of_kinds(way.left_kinds(), len(way.left_out()))
        self.check_row_of_kinds(way.reached_kinds(), min(first.letters(), other.letters()))
        self.check_row_of_kinds(way.over_kinds(), other.letters())
        self.check_fit(first.kinds(), way.left_kinds(), way.reached_kinds())
        self.check_fit(other.kinds(), way.reached_kinds(), way.over_kinds())
        some = [some_sum(chance, first.letters(), 10 ** 40), [FAR] * first.letters()] + first.nothings()
        for one in some + way.left_out():
            self.check_sent(way, first, other, sums, one)
            self.assertTrue(self.check_met(way, first, other, sums, way.image(one)))
        for one in [some_sum(chance, other.letters(), 10 ** 40), [1] * other.letters()] + units(other.letters()):
            self.check_met(way, first, other, sums, one)

    def test_free_sums(self):
        chance = random.Random(921)
        for name, rows in edge_rooms(chance).items():
            with self.subTest(name):
                for letters in (1, 6):
                    sums = [some_sum(chance, 6, FAR) for _ in range(letters)]
                    self.check_far(chance, Room(letters), Room(6, rows), sums)
                narrow = [row[:2] for row in rows]
                self.check_far(chance, Room(6), Room(2, narrow), [some_sum(chance, 2, FAR) for _ in range(6)])

    def test_a_room_to_itself(self):
        chance = random.Random(922)
        for name, rows in edge_rooms(chance).items():
            with self.subTest(name):
                room = Room(6, rows)
                for many in (1, 997, FAR):
                    self.check_far(chance, room, room, [[many * number for number in row] for row in units(6)])

    def test_letters_that_go_to_nothings(self):
        chance = random.Random(923)
        ends = [[FAR * number for number in row] for row in units(6)]
        for rows in (ends, [some_sum(chance, 6, FAR) for _ in range(6)]):
            self.check_far(chance, Room(6, ends), Room(6, rows), rows)
            self.check_far(chance, Room(6, ends), Room(6, ends), rows)


if __name__ == "__main__":
    unittest.main()
