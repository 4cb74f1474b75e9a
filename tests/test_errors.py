"""[5]: the errors."""

import unittest

from nearwish import errors
from nearwish.errors import NearError, NoWish, TooMany
from nearwish.wishes import Wish

from kinds import odd_values

PLAIN = ["NoWord", "NoAnswer", "NoIndex", "NotRight", "NoNumber", "NoTable", "NoLetter", "NoShort", "NoBound",
         "NotNear", "NoNames", "NoPlace", "NoHouse", "NoSaid", "NoLook", "IsNear", "NoGiven", "NoLetters", "NoLevel",
         "NoText"]
ALL = PLAIN + ["NoWish", "TooMany"]


class Errors(unittest.TestCase):

    def test_near_error_is_a_value_error(self):
        self.assertEqual(NearError.__bases__, (ValueError,))

    def test_each_is_a_direct_subclass_of_near_error(self):
        for name in ALL:
            self.assertEqual(getattr(errors, name).__bases__, (NearError,), name)

    def test_none_is_a_subclass_of_another_one(self):
        for name in ALL:
            for other in ALL:
                if name != other:
                    self.assertFalse(issubclass(getattr(errors, name), getattr(errors, other)), (name, other))

    def test_no_two_names_for_one_class(self):
        self.assertEqual(len({getattr(errors, name) for name in ALL}), 22)

    def test_plain_ones_are_made_without_arguments(self):
        for name in PLAIN:
            kind = getattr(errors, name)
            with self.assertRaises(kind):
                raise kind()

    def test_fields_keep_what_they_are_made_with(self):
        for value in odd_values() + [10 ** 5000, object()]:
            self.assertIs(NoWish(value).part, value)
            self.assertIs(TooMany(value).most, value)
            self.assertIsInstance(str(NoWish(value)), str)
            self.assertIsInstance(str(TooMany(value)), str)

    def test_fields_are_those_of_the_object(self):
        one, other = NoWish("given"), NoWish("said")
        self.assertEqual((one.part, other.part), ("given", "said"))
        one, other = TooMany(24), TooMany(200)
        self.assertEqual((one.most, other.most), (24, 200))

    def test_no_wish_is_caught_under_each_of_its_names(self):
        for kind in (NoWish, NearError, ValueError):
            with self.assertRaises(kind) as caught:
                Wish("", "X", [])
            self.assertIs(type(caught.exception), NoWish)
            self.assertEqual(caught.exception.part, "given")


if __name__ == "__main__":
    unittest.main()
