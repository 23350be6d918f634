"""Point 1 over ways and texts: what is handed in, what is told, refusals, and the same told each time."""

import copy
import random
import unittest

from sumroom.errors import BadSum, BadText, NoWay
from sumroom.rooms import Room
from sumroom.texts import room_of, room_text
from sumroom.ways import Way
from tests.checks import RefusalChecks
from tests.oracle import FAR, ODD_THINGS, box, goes_into, some_sum, some_ways, told, told_by_way, weighs, woven

FIRST = (3, [[4, 0, 2], [0, 6, 0]])
OTHER = (2, [[12, 0], [0, 18]])
SUMS = [[3, 0], [2, 6], [0, 9]]
SOME = [[0, 0, 0], [1, 2, 3], [4, 6, 2], [4, 0, 0], [8, 3, 4]]
OTHERS = [[0, 0], [1, 0], [5, 6], [12, 18], [1, 3]]


def rooms():
    return Room(*FIRST), Room(*OTHER)


def all_told(way):
    return told_by_way(way, SOME, OTHERS)


class HandedIn(unittest.TestCase):

    def test_the_way_tells_both_of_what_is_left_out_and_reached_and_of_what_is_not(self):
        way = Way(*rooms(), SUMS)
        self.assertEqual({way.left_as(one) is None for one in SOME}, {True, False})
        self.assertEqual({way.source(one) is None for one in OTHERS}, {True, False})

    def test_the_list_of_sums_is_neither_changed_nor_kept(self):
        first = all_told(Way(*rooms(), copy.deepcopy(SUMS)))
        sums = copy.deepcopy(SUMS)
        way = Way(*rooms(), sums)
        self.assertEqual(sums, SUMS)
        sums[0][1] = 77
        sums[1].append(5)
        sums.append([1, 1])
        del sums[2]
        self.assertEqual(all_told(way), first)
        sums.clear()
        self.assertEqual(all_told(way), first)

    def test_one_list_that_stands_there_twice(self):
        row = [1, 2]
        way = Way(Room(2), Room(2), [row, row])
        row[0] = 9
        self.assertEqual(way.image([1, 1]), [2, 4])

    def test_sums_asked_about_are_neither_changed_nor_kept(self):
        way = Way(*rooms(), SUMS)
        first = all_told(way)
        for call, asked in ((way.image, SOME), (way.left_as, SOME), (way.source, OTHERS), (way.bar, OTHERS)):
            for one in asked:
                handed = list(one)
                found = copy.deepcopy(call(handed))
                self.assertEqual(handed, one)
                told_now = call(handed)
                handed[0] += 1
                handed.append(3)
                self.assertEqual((told_now, call(list(one))), (found, found))
        self.assertEqual(all_told(way), first)

    def test_a_way_that_leaves_sums_as_they_are_does_not_hand_them_back(self):
        way = Way(Room(2), Room(2), [[1, 0], [0, 1]])
        one = [3, 4]
        for call in (way.image, way.source):
            self.assertEqual(call(one), one)
            self.assertIsNot(call(one), one)
        way = Way(Room(2), Room(0), [[], []])
        self.assertIsNot(way.left_as(one), one)

    def test_both_rooms_are_neither_changed_nor_kept(self):
        one, other = rooms()
        before = told(one, SOME), told(other, OTHERS)
        way = Way(one, other, SUMS)
        first = copy.deepcopy(all_told(way))
        self.assertEqual((told(one, SOME), told(other, OTHERS)), before)
        one.put([1, 0, 0])
        one.take(0)
        other.put([1, 1])
        other.take(0)
        self.assertEqual(all_told(way), first)
        self.assertEqual((one.nothings(), other.nothings()), ([[0, 6, 0], [1, 0, 0]], [[0, 18], [1, 1]]))


class Told(unittest.TestCase):

    def change(self, found):
        """Change all lists in what was told."""
        if type(found) in (list, tuple):
            for part in found:
                self.change(part)
        if type(found) is list:
            if found:
                found[0] = 99
            found.append(11)

    def test_what_is_told_may_be_changed_by_the_asker(self):
        for one, other, sums in list(some_ways(111, 30)) + [(FIRST, OTHER, SUMS)]:
            way = Way(Room(*one), Room(*other), sums)
            some, others = box(one[0], 1)[:9], box(other[0], 1)[:9]
            first = copy.deepcopy(told_by_way(way, some, others))
            for _ in range(2):
                self.change(told_by_way(way, some, others))
                self.assertEqual(told_by_way(way, some, others), first)

    def test_what_was_told_is_not_changed_by_what_is_asked_later(self):
        way = Way(*rooms(), SUMS)
        kept = all_told(way)
        again = copy.deepcopy(kept)
        told_by_way(way, SOME[::-1], OTHERS[::-1])
        self.change(all_told(way))
        self.assertEqual(kept, again)

    def test_two_ways_do_not_share_anything(self):
        one, other = rooms()
        first, second = Way(one, other, SUMS), Way(one, other, SUMS)
        before = copy.deepcopy(all_told(second))
        self.change(all_told(first))
        self.assertEqual(all_told(second), before)


class SameTold(unittest.TestCase):

    def test_in_whatever_order_they_are_asked(self):
        chance = random.Random(112)
        for one, other, sums in some_ways(113, 60):
            some, others = [some_sum(chance, one[0], 5) for _ in range(3)], [some_sum(chance, other[0], 5)]
            first = told_by_way(Way(Room(*one), Room(*other), sums), some, others)
            way = Way(Room(*one), Room(*other), sums)
            for ask in (lambda: way.over_kinds(), lambda: [way.bar(row) for row in others],
                        lambda: [way.source(row) for row in others[::-1]], lambda: way.reached_kinds(),
                        lambda: [way.left_as(row) for row in some[::-1]], lambda: way.left_kinds()):
                ask()
            self.assertEqual(told_by_way(way, some, others), first)
            self.assertEqual(told_by_way(way, some, others), first)

    def test_however_the_rooms_came_to_their_nothings(self):
        for one, other, sums in some_ways(114, 60):
            some, others = box(one[0], 1)[:6], box(other[0], 1)[:6]
            first = told_by_way(Way(Room(*one), Room(*other), sums), some, others)
            grown = []
            for letters, rows in (one, other):
                room = Room(letters, [[5] * letters])
                room.kinds()
                for row in rows:
                    room.put(row)
                room.take(0)
                grown.append(room)
            self.assertEqual(told_by_way(Way(*grown, sums), some, others), first)
            read = [room_of(room_text(room)) for room in grown]
            self.assertEqual(told_by_way(Way(*read, sums), some, others), first)


class Refusals(RefusalChecks, unittest.TestCase):

    def setUp(self):
        self.one, self.other = rooms()
        self.way = Way(self.one, self.other, SUMS)
        self.before = copy.deepcopy(all_told(self.way))

    def tearDown(self):
        self.assertEqual(all_told(self.way), self.before)
        self.assertEqual((self.one.nothings(), self.other.nothings()), (FIRST[1], OTHER[1]))

    def test_lists_of_sums_of_any_kind(self):
        for thing in ODD_THINGS + [0, 3, [], [0, 0, 0], [[0, 0]], [[[0, 0]]] * 3]:
            self.refused(BadSum, Way, self.one, self.other, thing)
            self.refused(BadSum, Way, Room(1, [[5]]), Room(1), thing)

    def test_sums_of_a_way_of_any_kind(self):
        for thing in ODD_THINGS + [0, 2, [], [1], [1, 2, 3], [[1, 2]]]:
            for at in range(3):
                sums = [[3, 0], [2, 6], [0, 9]]
                sums[at] = thing
                self.refused(BadSum, Way, self.one, self.other, sums)

    def test_numbers_in_sums_of_a_way_of_any_kind(self):
        for thing in ODD_THINGS + [[], [1], FAR + 1, -FAR - 1]:
            for at in range(3):
                for place in range(2):
                    sums = [[3, 0], [2, 6], [0, 9]]
                    sums[at][place] = thing
                    self.refused(BadSum, Way, self.one, self.other, sums)

    def test_sums_asked_about_of_any_kind(self):
        for thing in ODD_THINGS + [0, 2, [], [1], [[1, 2, 3]], [1, 2, 3, 4]]:
            for call in (self.way.image, self.way.left_as, self.way.source, self.way.bar):
                self.refused(BadSum, call, thing)
        for call in (self.way.image, self.way.left_as):
            self.refused(BadSum, call, [1, 2])
        for call in (self.way.source, self.way.bar):
            self.refused(BadSum, call, [1, 2, 3])

    def test_numbers_in_sums_asked_about_of_any_kind(self):
        for thing in ODD_THINGS + [[], [1]]:
            for call in (self.way.image, self.way.left_as):
                self.refused(BadSum, call, [1, thing, 3])
                self.refused(BadSum, call, [thing, 2, 3])
            for call in (self.way.source, self.way.bar):
                self.refused(BadSum, call, [1, thing])
                self.refused(BadSum, call, [thing, 1])

    def test_true_and_false_are_no_whole_numbers(self):
        self.refused(BadSum, Way, Room(1), Room(1), [[True]])
        self.refused(BadSum, Way, Room(1), Room(1), [[False]])
        way = Way(Room(1), Room(1, [[2]]), [[1]])
        for call in (way.image, way.left_as, way.source, way.bar):
            self.refused(BadSum, call, [True])
            self.refused(BadSum, call, [False])

    def test_no_way(self):
        self.refused(NoWay, Way, self.one, self.other, [[1, 0], [0, 1], [0, 0]])

    def test_texts_of_any_kind(self):
        for thing in ODD_THINGS + [0, 1, [], ["letters 1"]]:
            self.refused(BadText, room_of, thing)


class ManyFigures(unittest.TestCase):

    def check_figures(self, far):
        way = Way(*rooms(), SUMS)
        other = Room(*OTHER)
        one = [far, -3 * far, 7 - far]
        self.assertEqual(way.image(one), woven(one, SUMS, 2))
        rows = way.left_out()
        many = [far + at for at in range(len(rows))]
        self.assertEqual(way.left_as(woven(many, rows, 3)), many)
        source = way.source(way.image(one))
        self.assertTrue(other.alike(way.image(source), way.image(one)))
        self.assertIsNone(way.bar(way.image(one)))
        weights, number = way.bar([3 * far, 3 * far + 1])
        self.assertFalse(goes_into(number, weighs([3 * far, 3 * far + 1], weights)))
        self.assertIsNone(way.source([3 * far, 3 * far + 1]))

    def test_forty_figures_and_more(self):
        for figures in (13, 40, 77, 1000, 3900):
            self.check_figures(10 ** figures + 1234567)
            self.check_figures(-10 ** figures - 7654321)

    def test_rooms_without_nothings(self):
        far = 10 ** 60 + 1
        way = Way(Room(2), Room(2), [[FAR, 1], [-1, FAR]])
        self.assertEqual(way.source(way.image([far, -far])), [far, -far])
        self.assertIsNone(way.left_as([far, -far]))
        way = Way(Room(2), Room(1), [[FAR], [FAR - 1]])
        self.assertEqual(way.image(way.source([far])), [far])
        weights, number = Way(Room(1), Room(2), [[FAR, 1]]).bar([far * FAR, far + 1])
        self.assertFalse(goes_into(number, weighs([far * FAR, far + 1], weights)))


if __name__ == "__main__":
    unittest.main()
