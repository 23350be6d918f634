"""Checks that several tests share: that what rooms and ways tell is borne out by their nothings and sums."""

from sumroom.errors import SumError
from tests.oracle import FAR, goes_into, kinds_by_minors, minus, product_of, rank_and_minors, weighs, woven


class RefusalChecks:
    """To stand beside unittest.TestCase as a base class."""

    def refused(self, error, call, *handed):
        """The call is refused by this very error; return it."""
        with self.assertRaises(SumError, msg=repr(handed)) as caught:
            call(*handed)
        self.assertIs(type(caught.exception), error)
        return caught.exception


class RoomChecks:
    """To stand beside unittest.TestCase as a base class."""

    def check_whole(self, row, many):
        """A list of so many whole numbers."""
        self.assertIs(type(row), list)
        self.assertEqual([type(number) for number in row], [int] * many)

    def check_shown(self, room, one, other):
        """What shows the two sums to be alike comes to the first less the second."""
        many = room.shown(one, other)
        nothings = room.nothings()
        self.check_whole(many, len(nothings))
        self.assertEqual(woven(many, nothings, room.letters()), minus(one, other))

    def check_apart(self, room, one, other):
        """What tells the two sums apart is a gauge, and does so."""
        gauge = room.apart(one, other)
        self.assertIs(type(gauge), tuple)
        weights, number = gauge
        self.check_whole(weights, room.letters())
        self.assertIs(type(number), int)
        self.assertTrue(number == 0 or number >= 2, number)
        for row in room.nothings():
            self.assertTrue(goes_into(number, weighs(row, weights)), (gauge, row))
        self.assertFalse(goes_into(number, weighs(minus(one, other), weights)), (gauge, one, other))

    def check_pair(self, room, one, other):
        """Each of two sums has just one of both, shown and gauge; return whether they are alike."""
        alike = room.alike(one, other)
        self.assertIs(type(alike), bool)
        if alike:
            self.check_shown(room, one, other)
            self.assertIsNone(room.apart(one, other))
        else:
            self.assertIsNone(room.shown(one, other))
            self.check_apart(room, one, other)
        self.assertEqual(room.spot(one) == room.spot(other), alike)
        return alike

    def check_pairs(self, room, sums):
        """Each two of the sums, either way round."""
        for one in sums:
            for other in sums:
                alike = self.check_pair(room, one, other)
                self.assertEqual(alike, room.alike(other, one))

    def check_row_of_kinds(self, kinds, letters):
        """None is 1, each goes into the next one, at most as many as letters."""
        self.check_whole(kinds, len(kinds))
        self.assertLessEqual(len(kinds), letters)
        for at, kind in enumerate(kinds):
            self.assertTrue(kind == 0 or kind >= 2, kinds)
            # 0 goes into 0 alone, so noughts come last.
            self.assertTrue(at == 0 or goes_into(kinds[at - 1], kind), kinds)

    def check_kinds(self, room):
        """The kinds are a row of such, and they come to the count."""
        kinds = room.kinds()
        self.check_row_of_kinds(kinds, room.letters())
        self.assertEqual(room.count(), product_of(kinds) or None)

    def check_spot(self, room, one):
        """A sum's spot is one of the room, and the sum told for it is alike with the sum."""
        spot, kinds = room.spot(one), room.kinds()
        self.check_whole(spot, len(kinds))
        for place, kind in zip(spot, kinds):
            self.assertTrue(kind == 0 or 0 <= place < kind, (spot, kinds))
        self.check_sum_at(room, spot)
        self.assertTrue(room.alike(room.sum_at(spot), one))

    def check_sum_at(self, room, spot):
        """A sum told for a spot has that spot."""
        found = room.sum_at(spot)
        self.check_whole(found, room.letters())
        self.assertEqual(room.spot(found), spot)


class WayChecks(RoomChecks):
    """To stand beside unittest.TestCase: that what a way tells is borne out by its rooms and sums."""

    def check_left_out(self, way, first):
        """A row of sums that stand free of one another, no more than letters, each of which is left out."""
        rows = way.left_out()
        self.assertIs(type(rows), list)
        self.assertLessEqual(len(rows), first.letters())
        for at, row in enumerate(rows):
            self.check_whole(row, first.letters())
            self.assertEqual(way.left_as(row), [int(place == at) for place in range(len(rows))])
        self.assertEqual(rank_and_minors(first.letters(), rows)[0], len(rows))

    def check_sent(self, way, first, other, sums, one):
        """A sum of the first room goes where the way's sums say, and is left out if that is nothing; return whether."""
        image = way.image(one)
        self.check_whole(image, other.letters())
        self.assertEqual(image, woven(one, sums, other.letters()))
        left = other.alike(image, [0] * other.letters())
        many = way.left_as(one)
        if left:
            rows = way.left_out()
            self.check_whole(many, len(rows))
            self.assertEqual(woven(many, rows, first.letters()), one)
        else:
            self.assertIsNone(many)
        return left

    def check_met(self, way, first, other, sums, one):
        """A sum of the other room has just one of both, source and bar; return whether it is reached."""
        source, bar = way.source(one), way.bar(one)
        self.assertNotEqual(source is None, bar is None, one)
        if bar is None:
            self.check_whole(source, first.letters())
            self.assertTrue(other.alike(way.image(source), one))
            return True
        self.assertIs(type(bar), tuple)
        weights, number = bar
        self.check_whole(weights, other.letters())
        self.assertIs(type(number), int)
        self.assertTrue(number == 0 or number >= 2, number)
        for row in other.nothings() + sums:
            self.assertTrue(goes_into(number, weighs(row, weights)), (bar, row))
        self.assertFalse(goes_into(number, weighs(one, weights)), (bar, one))
        return False

    def check_all_kinds(self, way, first, other, sums):
        """The three rows of kinds are those that determinants tell, and fit both rooms."""
        left, reached, over = way.left_kinds(), way.reached_kinds(), way.over_kinds()
        rows = way.left_out()
        self.check_row_of_kinds(left, len(rows))
        self.check_row_of_kinds(reached, min(first.letters(), other.letters()))
        self.check_row_of_kinds(over, other.letters())
        self.assertEqual(left, kinds_by_minors(len(rows), [way.left_as(row) for row in first.nothings()]))
        self.assertEqual(reached, kinds_by_minors(first.letters(), rows))
        self.assertEqual(over, kinds_by_minors(other.letters(), other.nothings() + sums))
        self.check_fit(first.kinds(), left, reached)
        self.check_fit(other.kinds(), reached, over)

    def check_fit(self, kinds, some, others):
        """Two rows of kinds come together to what the kinds of a room come to."""
        self.assertEqual(kinds.count(0), some.count(0) + others.count(0))
        if 0 not in kinds:
            self.assertEqual(product_of(kinds), product_of(some) * product_of(others))


# Six letters, sixteen nothings, numbers as far as they go: each another form of such a room.
def edge_rooms(chance):
    """Nothings of rooms at the edges of all limits at once, by names."""
    def far():
        return chance.randint(-FAR, FAR)

    some = [[far() for _ in range(6)] for _ in range(16)]
    few = [[chance.randint(-10 ** 6, 10 ** 6) for _ in range(6)] for _ in range(4)]
    six = [[far() for _ in range(6)] for _ in range(6)]
    return {
        "any": [[FAR, -FAR] + row[2:] for row in some],
        "ends": [[chance.choice([FAR, -FAR, FAR - 1, 1 - FAR]) for _ in row] for row in some],
        "ends and noughts": [[chance.choice([FAR, -FAR, 0]) for _ in row] for row in some],
        "steps of 997": [[number // 997 * 997 for number in row] for row in some],
        "a few, over and over": [woven([chance.randint(-250000, 250000) for _ in few], few, 6) for _ in some],
        "six, over and over": [six[at % 6] for at in range(16)],
        "all the same": [[FAR, -FAR, FAR, -FAR, FAR, -FAR] for _ in some],
        "one letter each": [[FAR if at % 6 == place else 0 for place in range(6)] for at in range(16)],
        "noughts alone": [[0] * 6 for _ in some],
        "noughts but one": [[0] * 6 for _ in some[:15]] + [[FAR, 0, 0, 0, 0, -FAR]],
    }
