"""[6] (and [3], [4] for it): wishes."""

import unittest
from copy import deepcopy
from itertools import permutations, product
from random import Random
from string import ascii_lowercase, ascii_uppercase

from nearwish.errors import NoWish
from nearwish.wishes import Wish

from kinds import all_pairs, odd_values, some_wishes, three, two

BAD_GIVEN = ["", "abcd", "aa", "aba", "aab", "A", "aB", "a ", " a", "a1", "0", "abca", "`", "{", "a\n", "-"]
BAD_SAID = ["", "ABCDE", "AA", "ABA", "ABCA", "a", "Ab", "A ", " A", "A1", "0", "@", "[", "A\n", "ABCDA", "_"]
BAD_PAIRS = [
    ("aXaY",), (), {}, {"aXaY": True}, "aXaY", "", None, 0, True, ["aXa"], ["aXaYa"], ["aXaYaX"], [""], ["aX"],
    ["aXaZ"], ["bXaY"], ["aXbY"], ["aZaX"], ["XaYa"], ["aXYa"], ["aaXY"], ["XXaa"], ["AXAY"], ["axay"], ["aXaY "],
    ["aXaY", "aXaY"], ["aXaY", "aYaX", "aXaY"], [["aXaY"]], [("aX", "aY")], [["aX", "aY"]], [None], [0], [True],
    ["aXaY", None], ["aXaY", "aYaX", 5], [{}], [[]], [()], [["a", "X", "a", "Y"]], [("a", "X", "a", "Y")],
    [{"aXaY": True}], ["aXaY", ["aXaY"]], [["aXaY"], ["aXaY"]], ["    "], ["aXa\n"], [two()],
]


class Constructor(unittest.TestCase):

    def part_of(self, given, said, pairs):
        with self.assertRaises(NoWish) as caught:
            Wish(given, said, pairs)
        return caught.exception.part

    def test_given_as_described(self):
        for given in ["a", "z", "ab", "ba", "abc", "cab", "zya"]:
            self.assertEqual(Wish(given, "X", []).given(), given)
        for letter in ascii_lowercase:
            self.assertEqual(Wish(letter, "X", []).given(), letter)

    def test_said_as_described(self):
        for said in ["A", "Z", "AB", "BA", "XYZ", "ZYX", "WXYZ", "DACB"]:
            self.assertEqual(Wish("a", said, []).said(), said)
        for letter in ascii_uppercase:
            self.assertEqual(Wish("a", letter, []).said(), letter)

    def test_pairs_as_described(self):
        self.assertEqual(Wish("abc", "WXYZ", []).pairs(), [])
        self.assertEqual(len(Wish("abc", "WXYZ", all_pairs("abc", "WXYZ")).pairs()), 144)
        self.assertEqual(Wish("a", "X", ["aXaX"]).pairs(), ["aXaX"])

    def test_given_not_as_described(self):
        for given in BAD_GIVEN:
            self.assertEqual(self.part_of(given, "XY", []), "given", repr(given))

    def test_said_not_as_described(self):
        for said in BAD_SAID:
            self.assertEqual(self.part_of("a", said, []), "said", repr(said))

    def test_pairs_not_as_described(self):
        for pairs in BAD_PAIRS:
            self.assertEqual(self.part_of("a", "XY", pairs), "pairs", repr(pairs))

    def test_parts_of_other_kinds(self):
        for value in odd_values():
            if value not in ("a", "b"):
                self.assertEqual(self.part_of(value, "XY", []), "given", repr(value))
            if value not in ("A", "X"):
                self.assertEqual(self.part_of("a", value, []), "said", repr(value))
            if value not in ([], ["aXaY"], two().pairs()):
                self.assertEqual(self.part_of("a", "XY", value), "pairs", repr(value))

    def test_members_of_pairs_of_other_kinds(self):
        for value in odd_values():
            if value != "aXaY":
                self.assertEqual(self.part_of("a", "XY", [value]), "pairs", repr(value))
                self.assertEqual(self.part_of("a", "XY", ["aYaX", value]), "pairs", repr(value))

    def test_each_string_of_four_letters(self):
        cells = {"bX", "bY", "aX", "aY"}
        for row in product("abcXYZ", repeat=4):
            pair = "".join(row)
            if pair[:2] in cells and pair[2:] in cells:
                self.assertEqual(Wish("ba", "XY", [pair]).pairs(), [pair])
            else:
                self.assertEqual(self.part_of("ba", "XY", [pair]), "pairs", pair)

    def test_the_first_part_is_told(self):
        for given, said in product(["", "aa", None, ["a"], 5], ["", "aa", None, ["X"], ("X",)]):
            self.assertEqual(self.part_of(given, "XY", None), "given")
            self.assertEqual(self.part_of(given, said, []), "given")
            self.assertEqual(self.part_of(given, said, ["aXaX", "aXaX"]), "given")
            self.assertEqual(self.part_of("a", said, None), "said")
            self.assertEqual(self.part_of("a", said, ["bXbX"]), "said")

    def test_arguments_stay_as_they_were(self):
        for pairs in [["aYaX", "aXaY"], []] + BAD_PAIRS:
            held = deepcopy(pairs)
            try:
                Wish("a", "XY", pairs)
            except NoWish:
                pass
            self.assertEqual(pairs, held)


class Order(unittest.TestCase):

    def test_cells_in_the_order_of_the_letters(self):
        self.assertEqual(Wish("ca", "ZAM", []).cells(), ["cZ", "cA", "cM", "aZ", "aA", "aM"])
        self.assertEqual(Wish("a", "X", []).cells(), ["aX"])
        self.assertEqual(three().cells(), ["aX", "aY", "aZ"])

    def test_pairs_in_the_order_of_the_letters(self):
        wish = Wish("ca", "ZA", ["aAaA", "aZaA", "aZcZ", "cAcA", "cAcZ", "cZaA", "cZaZ", "cZcA"])
        self.assertEqual(wish.pairs(), ["cZcA", "cZaZ", "cZaA", "cAcZ", "cAcA", "aZcZ", "aZaA", "aAaA"])

    def test_pairs_in_this_order_whatever_was_handed_in(self):
        for pairs in permutations(["bXaX", "bXaY", "aXbX", "aYbY"]):
            self.assertEqual(Wish("ba", "XY", list(pairs)).pairs(), ["bXaX", "bXaY", "aXbX", "aYbY"])
        pairs = all_pairs("cab", "ZWYX")
        for seed in range(5):
            mixed = list(pairs)
            Random(seed).shuffle(mixed)
            self.assertEqual(Wish("cab", "ZWYX", mixed).pairs(), pairs)

    def test_kinds_of_what_is_returned(self):
        for wish in some_wishes():
            self.assertIs(type(wish.given()), str)
            self.assertIs(type(wish.said()), str)
            for rows in (wish.cells(), wish.pairs()):
                self.assertIs(type(rows), list)
                self.assertEqual({type(row) for row in rows} - {str}, set())


class NoChange(unittest.TestCase):

    def test_the_list_that_was_passed_is_copied(self):
        pairs = ["aXaY"]
        wish = Wish("a", "XY", pairs)
        pairs.append("aYaX")
        pairs[0] = "aXaX"
        self.assertEqual(wish.pairs(), ["aXaY"])
        self.assertEqual(wish, Wish("a", "XY", ["aXaY"]))

    def test_lists_are_new(self):
        for wish in some_wishes():
            for ask in (wish.cells, wish.pairs):
                held = list(ask())
                self.assertIsNot(ask(), ask())
                ask().clear()
                ask().append("zz")
                self.assertEqual(ask(), held)

    def test_a_changed_list_does_not_change_equality(self):
        wish = two()
        wish.pairs().pop()
        wish.cells().pop()
        self.assertTrue(wish == two())


class Equality(unittest.TestCase):

    def test_equal_wishes(self):
        self.assertIs(three() == three(), True)
        self.assertIs(Wish("a", "XY", ["aXaY", "aYaX"]) == Wish("a", "XY", ["aYaX", "aXaY"]), True)
        self.assertIs(Wish("ab", "X", []) == Wish("ab", "X", []), True)
        wish = three()
        self.assertIs(wish == wish, True)
        self.assertIs(wish != three(), False)

    def test_one_part_differs(self):
        pairs = ["aXaY"]
        wish = Wish("ab", "XY", pairs)
        others = [Wish("a", "XY", pairs), Wish("ac", "XY", pairs), Wish("abc", "XY", pairs), Wish("ab", "XYZ", pairs),
                  Wish("ab", "XYW", pairs), Wish("ab", "XY", []), Wish("ab", "XY", ["aYaX"]),
                  Wish("ab", "XY", ["aXaY", "aYaX"])]
        for other in others:
            self.assertIs(wish == other, False)
            self.assertIs(other == wish, False)
            self.assertIs(wish != other, True)

    def test_the_order_of_letters_differs(self):
        for pairs in ([], ["aXaY"], all_pairs("ab", "XY")):
            wish = Wish("ab", "XY", pairs)
            self.assertIs(wish == Wish("ba", "XY", pairs), False)
            self.assertIs(wish == Wish("ab", "YX", pairs), False)

    def test_no_wish(self):
        wish = Wish("a", "XY", ["aXaY"])
        for value in odd_values():
            if not isinstance(value, Wish):
                self.assertIs(wish == value, False, repr(value))
                self.assertIs(value == wish, False, repr(value))
        for value in [("a", "XY", ["aXaY"]), ["a", "XY", ["aXaY"]], ["aXaY"], "a"]:
            self.assertIs(wish == value, False)


if __name__ == "__main__":
    unittest.main()
