"""Checks that several tests share: that what a room tells is borne out by its nothings."""

from tests.oracle import FAR, goes_into, minus, weighs, woven


class RoomChecks:
    """To stand beside unittest.TestCase as a base class."""

    def check_whole(self, row, many):
        """A list of so many whole numbers."""
        self.assertIs(type(row), list)
        self.assertEqual([type(number) for number in row], [int] * many)

    def check_shown(self, room, one, other):
        """What shows the two sums to be alike comes to the first less the second."""
        many = room.shown(one, other)
        nothings = room.nothings()
        self.check_whole(many, len(nothings))
        self.assertEqual(woven(many, nothings, room.letters()), minus(one, other))

    def check_apart(self, room, one, other):
        """What tells the two sums apart is a gauge, and does so."""
        gauge = room.apart(one, other)
        self.assertIs(type(gauge), tuple)
        weights, number = gauge
        self.check_whole(weights, room.letters())
        self.assertIs(type(number), int)
        self.assertTrue(number == 0 or number >= 2, number)
        for row in room.nothings():
            self.assertTrue(goes_into(number, weighs(row, weights)), (gauge, row))
        self.assertFalse(goes_into(number, weighs(minus(one, other), weights)), (gauge, one, other))

    def check_pair(self, room, one, other):
        """Each of two sums has just one of both, shown and gauge; return whether they are alike."""
        alike = room.alike(one, other)
        self.assertIs(type(alike), bool)
        if alike:
            self.check_shown(room, one, other)
            self.assertIsNone(room.apart(one, other))
        else:
            self.assertIsNone(room.shown(one, other))
            self.check_apart(room, one, other)
        self.assertEqual(room.spot(one) == room.spot(other), alike)
        return alike

    def check_pairs(self, room, sums):
        """Each two of the sums, either way round."""
        for one in sums:
            for other in sums:
                alike = self.check_pair(room, one, other)
                self.assertEqual(alike, room.alike(other, one))

    def check_kinds(self, room):
        """None is 1, each goes into the next one, at most as many as letters, and they come to the count."""
        kinds = room.kinds()
        self.check_whole(kinds, len(kinds))
        self.assertLessEqual(len(kinds), room.letters())
        many = 1
        for at, kind in enumerate(kinds):
            self.assertTrue(kind == 0 or kind >= 2, kinds)
            # 0 goes into 0 alone, so noughts come last.
            self.assertTrue(at == 0 or goes_into(kinds[at - 1], kind), kinds)
            many *= kind
        self.assertEqual(room.count(), many if many else None)

    def check_spot(self, room, one):
        """A sum's spot is one of the room, and the sum told for it is alike with the sum."""
        spot, kinds = room.spot(one), room.kinds()
        self.check_whole(spot, len(kinds))
        for place, kind in zip(spot, kinds):
            self.assertTrue(kind == 0 or 0 <= place < kind, (spot, kinds))
        self.check_sum_at(room, spot)
        self.assertTrue(room.alike(room.sum_at(spot), one))

    def check_sum_at(self, room, spot):
        """A sum told for a spot has that spot."""
        found = room.sum_at(spot)
        self.check_whole(found, room.letters())
        self.assertEqual(room.spot(found), spot)


# Six letters, sixteen nothings, numbers as far as they go: each another form of such a room.
def edge_rooms(chance):
    """Nothings of rooms at the edges of all limits at once, by names."""
    def far():
        return chance.randint(-FAR, FAR)

    some = [[far() for _ in range(6)] for _ in range(16)]
    few = [[chance.randint(-10 ** 6, 10 ** 6) for _ in range(6)] for _ in range(4)]
    six = [[far() for _ in range(6)] for _ in range(6)]
    return {
        "any": [[FAR, -FAR] + row[2:] for row in some],
        "ends": [[chance.choice([FAR, -FAR, FAR - 1, 1 - FAR]) for _ in row] for row in some],
        "ends and noughts": [[chance.choice([FAR, -FAR, 0]) for _ in row] for row in some],
        "steps of 997": [[number // 997 * 997 for number in row] for row in some],
        "a few, over and over": [woven([chance.randint(-250000, 250000) for _ in few], few, 6) for _ in some],
        "six, over and over": [six[at % 6] for at in range(16)],
        "all the same": [[FAR, -FAR, FAR, -FAR, FAR, -FAR] for _ in some],
        "one letter each": [[FAR if at % 6 == place else 0 for place in range(6)] for at in range(16)],
        "noughts alone": [[0] * 6 for _ in some],
        "noughts but one": [[0] * 6 for _ in some[:15]] + [[FAR, 0, 0, 0, 0, -FAR]],
    }
