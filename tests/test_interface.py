"""The interface of sumroom/rooms.py, ways.py and texts.py: names, arguments and kinds of values."""

import inspect
import unittest

from sumroom import rooms, texts, ways
from sumroom.errors import BadText, NoWay
from sumroom.rooms import Room
from sumroom.texts import room_of, room_text
from sumroom.ways import Way

METHODS = {
    "letters": [], "nothings": [], "put": ["one"], "take": ["number"], "kinds": [], "count": [], "spot": ["one"],
    "sum_at": ["spot"], "alike": ["one", "other"], "shown": ["one", "other"], "apart": ["one", "other"],
    "order": ["one"],
}
WAY_METHODS = {
    "image": ["one"], "left_out": [], "left_as": ["one"], "left_kinds": [], "reached_kinds": [], "over_kinds": [],
    "source": ["one"], "bar": ["one"],
}


class Interface(unittest.TestCase):

    def test_the_room_is_defined_in_its_file(self):
        self.assertIs(rooms.Room, Room)
        self.assertEqual(Room.__module__, "sumroom.rooms")

    def test_a_room_takes_letters_and_nothings(self):
        taken = inspect.signature(Room).parameters
        self.assertEqual(list(taken), ["letters", "nothings"])
        self.assertIsNone(taken["nothings"].default)
        self.assertEqual(Room(nothings=[[2, 0]], letters=2).nothings(), [[2, 0]])

    def test_each_method_stands_in_the_class_with_its_arguments(self):
        for name, words in METHODS.items():
            self.assertIn(name, vars(Room))
            self.assertEqual(list(inspect.signature(getattr(Room(1), name)).parameters), words, name)

    def test_arguments_may_be_named(self):
        room = Room(letters=1)
        self.assertEqual(room.put(one=[6]), 0)
        self.assertEqual(len(room.spot(one=[5])), 1)
        self.assertEqual(room.spot(one=room.sum_at(spot=[5])), [5])
        self.assertIs(room.alike(one=[7], other=[1]), True)
        self.assertEqual(room.shown(one=[7], other=[1]), [1])
        self.assertIsNone(room.apart(one=[7], other=[1]))
        self.assertEqual(room.order(one=[4]), 3)
        self.assertIsNone(room.take(number=0))

    def test_kinds_of_values(self):
        room = Room(2, [[4, 0]])
        self.assertIs(type(room.letters()), int)
        for rows in (room.nothings(), room.kinds(), room.spot([1, 2]), room.sum_at([1, 2]), room.shown([4, 0], [0, 0])):
            self.assertIs(type(rows), list)
        self.assertIs(type(room.nothings()[0]), list)
        self.assertIs(room.count(), None)
        self.assertIs(type(Room(1, [[3]]).count()), int)
        self.assertIs(room.alike([4, 0], [0, 0]), True)
        self.assertIs(room.alike([3, 0], [0, 0]), False)
        gauge = room.apart([3, 0], [0, 0])
        self.assertIs(type(gauge), tuple)
        self.assertEqual(len(gauge), 2)
        self.assertIs(type(gauge[0]), list)
        self.assertIs(type(gauge[1]), int)
        self.assertIs(type(room.order([1, 0])), int)
        self.assertIs(type(room.put([0, 0])), int)
        self.assertIsNone(room.take(1))


class WayInterface(unittest.TestCase):

    def test_the_way_is_defined_in_its_file(self):
        self.assertIs(ways.Way, Way)
        self.assertEqual(Way.__module__, "sumroom.ways")

    def test_a_way_takes_two_rooms_and_sums(self):
        taken = inspect.signature(Way).parameters
        self.assertEqual(list(taken), ["one", "other", "sums"])
        self.assertEqual([word.default for word in taken.values()], [inspect.Parameter.empty] * 3)
        self.assertEqual(Way(sums=[[2, 3]], other=Room(2), one=Room(1)).image([1]), [2, 3])

    def test_each_method_stands_in_the_class_with_its_arguments(self):
        way = Way(Room(1), Room(1), [[1]])
        for name, words in WAY_METHODS.items():
            self.assertIn(name, vars(Way))
            self.assertEqual(list(inspect.signature(getattr(way, name)).parameters), words, name)

    def test_arguments_may_be_named(self):
        way = Way(Room(1), Room(1, [[6]]), [[2]])
        self.assertEqual(way.image(one=[5]), [10])
        self.assertIsNone(way.left_as(one=[1]))
        self.assertTrue(way.source(one=[4]))
        self.assertIsNone(way.bar(one=[4]))

    def test_kinds_of_values(self):
        way = Way(Room(2, [[6, 0]]), Room(1, [[6]]), [[2], [3]])
        for found in (way.image([1, 1]), way.left_out(), way.left_out()[0], way.left_as([3, 0]), way.left_kinds(),
                      way.reached_kinds(), way.over_kinds(), way.source([1])):
            self.assertIs(type(found), list)
        self.assertIsNone(way.left_as([1, 0]))
        self.assertIsNone(way.bar([1]))
        way = Way(Room(1), Room(1, [[6]]), [[2]])
        self.assertIsNone(way.source([1]))
        gauge = way.bar([1])
        self.assertIs(type(gauge), tuple)
        self.assertEqual([type(part) for part in gauge], [list, int])

    def test_no_way_has_its_field(self):
        with self.assertRaises(NoWay) as caught:
            Way(Room(1, [[0], [4]]), Room(1), [[1]])
        self.assertEqual(vars(caught.exception), {"at": 1})


class TextInterface(unittest.TestCase):

    def test_each_function_is_defined_in_its_file_with_its_arguments(self):
        for one, words in ((room_text, ["room"]), (room_of, ["text"])):
            self.assertEqual(one.__module__, "sumroom.texts")
            self.assertIs(getattr(texts, one.__name__), one)
            self.assertEqual(list(inspect.signature(one).parameters), words)

    def test_arguments_may_be_named(self):
        text = room_text(room=Room(1, [[6]]))
        self.assertIs(type(text), str)
        self.assertIs(type(room_of(text=text)), Room)

    def test_bad_text_has_its_field(self):
        for text, line in (("letters 1\n", 1), (None, None)):
            with self.assertRaises(BadText) as caught:
                room_of(text)
            self.assertEqual(vars(caught.exception), {"line": line})


if __name__ == "__main__":
    unittest.main()
