"""The interface of sumroom/rooms.py: names, arguments and kinds of values."""

import inspect
import unittest

from sumroom import rooms
from sumroom.rooms import Room

METHODS = {
    "letters": [], "nothings": [], "put": ["one"], "take": ["number"], "kinds": [], "count": [], "spot": ["one"],
    "sum_at": ["spot"], "alike": ["one", "other"], "shown": ["one", "other"], "apart": ["one", "other"],
    "order": ["one"],
}


class Interface(unittest.TestCase):

    def test_the_room_is_defined_in_its_file(self):
        self.assertIs(rooms.Room, Room)
        self.assertEqual(Room.__module__, "sumroom.rooms")

    def test_a_room_takes_letters_and_nothings(self):
        taken = inspect.signature(Room).parameters
        self.assertEqual(list(taken), ["letters", "nothings"])
        self.assertIsNone(taken["nothings"].default)
        self.assertEqual(Room(nothings=[[2, 0]], letters=2).nothings(), [[2, 0]])

    def test_each_method_stands_in_the_class_with_its_arguments(self):
        for name, words in METHODS.items():
            self.assertIn(name, vars(Room))
            self.assertEqual(list(inspect.signature(getattr(Room(1), name)).parameters), words, name)

    def test_arguments_may_be_named(self):
        room = Room(letters=1)
        self.assertEqual(room.put(one=[6]), 0)
        self.assertEqual(len(room.spot(one=[5])), 1)
        self.assertEqual(room.spot(one=room.sum_at(spot=[5])), [5])
        self.assertIs(room.alike(one=[7], other=[1]), True)
        self.assertEqual(room.shown(one=[7], other=[1]), [1])
        self.assertIsNone(room.apart(one=[7], other=[1]))
        self.assertEqual(room.order(one=[4]), 3)
        self.assertIsNone(room.take(number=0))

    def test_kinds_of_values(self):
        room = Room(2, [[4, 0]])
        self.assertIs(type(room.letters()), int)
        for rows in (room.nothings(), room.kinds(), room.spot([1, 2]), room.sum_at([1, 2]), room.shown([4, 0], [0, 0])):
            self.assertIs(type(rows), list)
        self.assertIs(type(room.nothings()[0]), list)
        self.assertIs(room.count(), None)
        self.assertIs(type(Room(1, [[3]]).count()), int)
        self.assertIs(room.alike([4, 0], [0, 0]), True)
        self.assertIs(room.alike([3, 0], [0, 0]), False)
        gauge = room.apart([3, 0], [0, 0])
        self.assertIs(type(gauge), tuple)
        self.assertEqual(len(gauge), 2)
        self.assertIs(type(gauge[0]), list)
        self.assertIs(type(gauge[1]), int)
        self.assertIs(type(room.order([1, 0])), int)
        self.assertIs(type(room.put([0, 0])), int)
        self.assertIsNone(room.take(1))


if __name__ == "__main__":
    unittest.main()
