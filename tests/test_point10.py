"""Point 10: the text of a room, and the room of a text."""

import random
import unittest

from sumroom.errors import BadText, SumError
from sumroom.rooms import Room
from sumroom.texts import room_of, room_text
from tests.checks import edge_rooms
from tests.oracle import FAR, ODD_THINGS, some_rooms, some_sum, told

KNOWN = [
    (0, [], "letters 0"), (0, [[]], "letters 0\nnothing"), (0, [[], [], []], "letters 0\nnothing\nnothing\nnothing"),
    (1, [], "letters 1"), (1, [[0]], "letters 1\nnothing 0"), (1, [[7], [-7]], "letters 1\nnothing 7\nnothing -7"),
    (2, [[4, 0], [0, 6]], "letters 2\nnothing 4 0\nnothing 0 6"),
    (3, [[-1, 20, -300]], "letters 3\nnothing -1 20 -300"),
    (2, [[FAR, -FAR], [FAR - 1, 1 - FAR]],
     "letters 2\nnothing 1000000000000 -1000000000000\nnothing 999999999999 -999999999999"),
    (6, [], "letters 6"), (6, [[1, 2, 3, 4, 5, 6]], "letters 6\nnothing 1 2 3 4 5 6"),
]


class TextCase(unittest.TestCase):

    def refused(self, text, line):
        with self.assertRaises(SumError, msg=repr(text)) as caught:
            room_of(text)
        self.assertIs(type(caught.exception), BadText)
        self.assertEqual(caught.exception.line, line, repr(text))
        self.assertIs(type(caught.exception.line), type(line))

    def check_both_ways(self, letters, rows):
        room = Room(letters, rows)
        text = room_text(room)
        self.assertIs(type(text), str)
        back = room_of(text)
        self.assertIs(type(back), Room)
        self.assertEqual((back.letters(), back.nothings()), (letters, rows))
        self.assertEqual(room_text(back), text)
        return room, back


class Written(TextCase):

    def test_known_rooms(self):
        for letters, rows, text in KNOWN:
            self.assertEqual(room_text(Room(letters, rows)), text)

    def test_the_nothings_in_order(self):
        room = Room(1, [[5], [3], [5]])
        room.put([-2])
        room.take(0)
        self.assertEqual(room_text(room), "letters 1\nnothing 3\nnothing 5\nnothing -2")

    def test_none_to_six_letters_and_none_to_sixteen_nothings(self):
        for letters in range(7):
            for many in range(17):
                rows = [[at - place for place in range(letters)] for at in range(many)]
                lines = room_text(Room(letters, rows)).split("\n")
                self.assertEqual(lines[0], "letters " + str(letters))
                self.assertEqual(lines[1:], [" ".join(["nothing"] + list(map(str, row))) for row in rows])

    def test_writing_changes_nothing(self):
        room = Room(2, [[4, 0], [0, 6]])
        first = told(room, [[1, 2], [4, 6]])
        self.assertEqual(room_text(room), room_text(room))
        self.assertEqual(told(room, [[1, 2], [4, 6]]), first)


class Read(TextCase):

    def test_known_texts(self):
        for letters, rows, text in KNOWN:
            room = room_of(text)
            self.assertEqual((room.letters(), room.nothings()), (letters, rows))
            self.assertEqual(room_text(room), text)

    def test_what_is_read_back_tells_the_same(self):
        chance = random.Random(1001)
        for letters, rows in some_rooms(1002, 100, 6, 6, 30):
            room, back = self.check_both_ways(letters, rows)
            sums = [some_sum(chance, letters, 50) for _ in range(3)] + rows[:1]
            self.assertEqual(told(back, sums), told(room, sums))

    def test_rooms_at_all_limits(self):
        chance = random.Random(1003)
        for rows in edge_rooms(chance).values():
            room, back = self.check_both_ways(6, rows)
            sums = [some_sum(chance, 6, FAR), rows[0]]
            self.assertEqual(told(back, sums), told(room, sums))
        for letters in range(7):
            for many in range(17):
                self.check_both_ways(letters, [some_sum(chance, letters, FAR) for _ in range(many)])
        for number in (FAR, -FAR, FAR - 1, 1 - FAR, 0, 1, -1, 10, -10):
            self.check_both_ways(1, [[number]])

    def test_both_rooms_change_apart(self):
        room, back = self.check_both_ways(2, [[4, 0], [0, 6]])
        room.put([1, 1])
        room.take(0)
        self.assertEqual(back.nothings(), [[4, 0], [0, 6]])
        back.take(1)
        back.put([9, 9])
        self.assertEqual(room.nothings(), [[0, 6], [1, 1]])
        self.assertEqual(room_text(back), "letters 2\nnothing 4 0\nnothing 9 9")

    def test_two_rooms_of_one_text_change_apart(self):
        text = "letters 1\nnothing 6"
        one, other = room_of(text), room_of(text)
        one.put([4])
        self.assertEqual((one.kinds(), other.kinds(), room_of(text).kinds()), ([2], [6], [6]))


class FirstLine(TextCase):

    def test_a_wrong_first_line(self):
        for line in ("", " ", "letters", "letters ", "letter 2", "Letters 2", "LETTERS 2", "letters2", "letters\t2",
                     "letters  2", " letters 2", "letters 2 ", "letters 2 2", "letters 2 0", "nothing 2", "nothing",
                     "2", "2 letters", "letters two", "letters 2.", "letters 2,", "letters 2;", "\ufeffletters 2"):
            for behind in ("", "\nnothing 1 2", "\n", "\nletters 2"):
                self.refused(line + behind, 0)

    def test_a_number_that_no_room_can_have(self):
        for word in ("7", "8", "10", "66", "-1", "-0", "+2", "02", "00", "2.0", "2e0", "0x2", "1_0", "True", "None",
                     "\u0662", "\u00b2", "\uff12", "\u0be8", "9" * 5000):
            self.refused("letters " + word, 0)
            self.refused("letters " + word + "\nnothing 1 2", 0)

    def test_none_to_six_and_just_outside(self):
        for letters in range(7):
            self.assertEqual(room_of("letters " + str(letters)).letters(), letters)
        self.refused("letters 7", 0)
        self.refused("letters -1", 0)
        self.refused("letters 02", 0)

    def test_the_first_line_gone(self):
        self.refused("nothing 1 2\nnothing 3 4", 0)
        self.refused("\nletters 2\nnothing 1 2", 0)

    def test_an_empty_text(self):
        self.refused("", 0)
        self.refused("\n", 0)


class OtherLines(TextCase):

    def check_line(self, line, letters=2):
        """No line can stand so, the first, a later or the last one of the nothings."""
        good = " ".join(["nothing"] + ["5"] * letters)
        head = "letters " + str(letters)
        self.refused("\n".join([head, line]), 1)
        self.refused("\n".join([head, line, good]), 1)
        self.refused("\n".join([head, good, line, good]), 2)
        self.refused("\n".join([head, good, good, good, line]), 4)
        self.refused("\n".join([head, good, line, line, ""]), 2)
        self.assertEqual(len(room_of("\n".join([head, good, good, good, good])).nothings()), 4)

    def test_a_line_more(self):
        for line in ("", " ", "letters 2", "letters", "nothings 1 2", "Nothing 1 2", "noth ing 1 2", "1 2", "# 1 2",
                     "something 1 2", "nothing1 2", "nothing", "nothing "):
            self.check_line(line)

    def test_blanks_ahead_behind_and_two_together(self):
        for line in (" nothing 1 2", "nothing 1 2 ", "nothing  1 2", "nothing 1  2", "  nothing 1 2", "nothing 1 2  "):
            self.check_line(line)
        for line in ("nothing ", " nothing", "nothing  ", ""):
            self.check_line(line, 0)
        for line in ("nothing ", "nothing  ", "nothing  1", "nothing 1 ", " nothing 1"):
            self.check_line(line, 1)

    def test_numbers_in_other_words(self):
        for word in ("-0", "00", "01", "-01", "007", "+1", "+0", "1.0", "1.", ".5", "1e3", "1_000", "1,000", "0x10",
                     "--1", "-", "- 1", "1-", "a", "1a", "one", "True", "None", "nan", "inf", "[1]", "'1'", "\u22121"):
            self.check_line("nothing " + word + " 2")
            self.check_line("nothing 1 " + word)
            self.check_line("nothing " + word, 1)

    def test_figures_of_other_scripts(self):
        for word in ("\u0661", "\u0967", "\uff11", "\u00b9", "\u2460", "\u4e00", "\u00bd", "1\u0661", "-\u0661"):
            self.check_line("nothing " + word + " 2")
            self.check_line("nothing 1 " + word)

    def test_a_number_beyond_the_bound(self):
        for number in (FAR + 1, -FAR - 1, 10 ** 13, -10 ** 13, 10 ** 40, -10 ** 3000):
            self.check_line("nothing 1 " + str(number))
            self.check_line("nothing " + str(number) + " 2")
        for word in ("9" * 6000, "-" + "9" * 6000, "0" * 6000, "0" + str(FAR)):
            self.check_line("nothing 1 " + word)
        for number in (FAR, -FAR):
            self.assertEqual(room_of("letters 1\nnothing " + str(number)).nothings(), [[number]])

    def test_too_many_or_too_few_numbers(self):
        for letters in range(7):
            for many in range(9):
                if many != letters:
                    self.check_line(" ".join(["nothing"] + ["1"] * many), letters)

    def test_other_kinds_of_blanks(self):
        for blank in ("\t", "\u00a0", "\u2003", "\u3000", "\x0b", "\x0c", "\x1f", "\u200b"):
            self.check_line("nothing" + blank + "1 2")
            self.check_line("nothing 1" + blank + "2")
            self.check_line("nothing 1 2" + blank)
            self.check_line(blank + "nothing 1 2")
            self.refused("letters" + blank + "2", 0)
            self.refused("letters 2" + blank, 0)

    def test_other_line_ends(self):
        for end in ("\r\n", "\r", "\x0b", "\x0c", "\x1c", "\x1d", "\x1e", "\x85", "\u2028", "\u2029", "\n\r", "\n\n"):
            first = 1 if end[0] == "\n" else 0
            self.refused("letters 2" + end + "nothing 1 2", first)
            self.refused("letters 2" + end, first)
            self.refused("letters 2\nnothing 1 2" + end + "nothing 3 4", first + 1)
            self.refused("letters 2\nnothing 1 2" + end, first + 1)

    def test_a_line_feed_behind_the_last_line(self):
        self.refused("letters 2\n", 1)
        self.refused("letters 0\n", 1)
        self.refused("letters 2\nnothing 1 2\n", 2)
        self.refused("letters 0\nnothing\n", 2)
        self.refused("letters 1\n" + "nothing 1\n" * 16, 17)

    def test_a_seventeenth_nothing(self):
        for letters in range(7):
            lines = ["letters " + str(letters)] + [" ".join(["nothing"] + ["3"] * letters)] * 20
            self.assertEqual(len(room_of("\n".join(lines[:17])).nothings()), 16)
            for many in (18, 19, 21):
                self.refused("\n".join(lines[:many]), 17)
            self.refused("\n".join(lines[:17] + ["nothing x"]), 17)
            self.refused("\n".join(lines[:3] + ["nothing x"] + lines[3:]), 3)

    def test_the_first_of_several(self):
        self.refused("letters 9\nnothing x\n", 0)
        self.refused("letters 1\nnothing 1\nnothing x\nnothing y", 2)
        self.refused("letters 1\n\n\n", 1)


class NoText(TextCase):

    def test_what_is_no_text(self):
        for thing in ODD_THINGS + [0, 2, 1.5, ["letters 2"], ["letters 2", "nothing 1 2"], ("letters 2",),
                                   b"letters 2", bytearray(b"letters 2"), {"letters": 2}, Room(2), str, [], [1, 2]]:
            if type(thing) is not str:
                self.refused(thing, None)

    def test_what_is_refused_changes_nothing(self):
        lines = ["letters 2", "nothing 1 2"]
        self.refused(lines, None)
        self.assertEqual(lines, ["letters 2", "nothing 1 2"])


if __name__ == "__main__":
    unittest.main()
