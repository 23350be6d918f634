"""The interface of sumroom/errors.py."""

import unittest

from sumroom import errors
from sumroom.errors import BadLetters, BadSpot, BadSum, BadText, NoNothing, NoWay, SumError, TooMany

STRAIGHT = (BadLetters, BadSum, TooMany, NoNothing, BadSpot, NoWay, BadText)


class Errors(unittest.TestCase):

    def test_the_refusal_above_all_is_a_value_error(self):
        self.assertEqual(SumError.__bases__, (ValueError,))

    def test_each_stands_straight_under_it_and_under_no_other(self):
        for one in STRAIGHT:
            self.assertEqual(one.__bases__, (SumError,), one)

    def test_each_is_defined_in_its_file(self):
        for one in STRAIGHT + (SumError,):
            self.assertEqual(one.__module__, "sumroom.errors")
            self.assertIs(getattr(errors, one.__name__), one)

    def test_no_way_has_the_field_at(self):
        self.assertEqual(NoWay(3).at, 3)
        self.assertEqual(NoWay(at=0).at, 0)

    def test_bad_text_has_the_field_line(self):
        self.assertEqual(BadText(2).line, 2)
        self.assertIsNone(BadText(line=None).line)

    def test_one_is_not_caught_as_another(self):
        for one in STRAIGHT:
            for other in STRAIGHT:
                self.assertEqual(issubclass(one, other), one is other)


if __name__ == "__main__":
    unittest.main()
