"""[22] (and [2], [3], [4] for it): wishes put together."""

import unittest
from itertools import permutations, product
from random import Random

from nearwish.books import near
from nearwish.errors import NoGiven, NoLetters, NoWish, TooMany
from nearwish.levels import level
from nearwish.rings import answer_at, answer_index, answers_many, first_answer, right
from nearwish.runs import nameless
from nearwish.tables import longs, table
from nearwish.texts import read_wish, wish_text
from nearwish.together import both, one_of, seen, struck, turned
from nearwish.wishes import Wish, wide_wish

from kinds import (all_pairs, as_told, chance_wish, nearly_nameless, odd_values, one_letter, over_200_tables, some_wishes,
                   three, two, whole, words)

LEVELS = ["none", "whole", "marks", "nameless"]
SAID = "ABCDEFGHIJKLMNOPQRSTUVWXYZ"


def ordered(wish, found):
    """The pairs, by the order of the cells."""
    cells = [x + s for x in wish.given() for s in wish.said()]
    return [p + q for p in cells for q in cells if p + q in found]


def couples():
    """Wishes with the same given letters."""
    found = [(two(), two()), (two(), three()), (three(), two()), (one_letter(), three()), (whole(), whole())]
    rows = [wish for wish in some_wishes() if len(wish.said()) <= 3] + [nearly_nameless([]), three()]
    found += [(one, other) for one in rows for other in rows if one.given() == other.given()]
    chance = Random(1)
    for seed in range(40):
        given = chance.choice(["a", "ab", "cab"])
        found.append(tuple(chance_wish(100 * seed + k, given, chance.choice(["X", "YX", "XYZ", "CABD"]),
                                       chance.choice([0.3, 0.5, 0.8])) for k in range(2)))
    return found


def levels_of(*wishes):
    """The levels, or None if one of them is not told."""
    try:
        return [level(wish) for wish in wishes]
    except TooMany:
        return None


class Both(unittest.TestCase):

    def test_of_the_document(self):
        self.assertEqual(wish_text(both(two(), two())), "given a\nsaid ABCD\npairs aAaD aBaC aCaB aDaA")

    def test_the_pairs(self):
        for one, other in couples():
            before = as_told(one), as_told(other)
            wish = both(one, other)
            many = len(other.said())
            self.assertEqual(wish.given(), one.given())
            self.assertEqual(wish.said(), SAID[:len(one.said()) * many])
            parts = {SAID[i * many + j]: (s, t) for i, s in enumerate(one.said()) for j, t in enumerate(other.said())}
            cells = [x + s for x in wish.given() for s in wish.said()]
            due = {p + q for p in cells for q in cells
                   if p[0] + parts[p[1]][0] + q[0] + parts[q[1]][0] in one.pairs()
                   and p[0] + parts[p[1]][1] + q[0] + parts[q[1]][1] in other.pairs()}
            self.assertEqual(wish.pairs(), ordered(wish, due))
            self.assertEqual((as_told(one), as_told(other)), before)

    def test_right_answers(self):
        for one, other in couples()[:30]:
            wish = both(one, other)
            many = len(other.said())
            for word in words(one.given(), 3) + [one.given() * 4, one.given()[0] * 7]:
                self.assertEqual(answers_many(wish, word), answers_many(one, word) * answers_many(other, word))
                firsts = first_answer(one, word), first_answer(other, word)
                found = first_answer(wish, word)
                if None in firsts:
                    self.assertIsNone(found)
                    continue
                self.assertTrue(right(wish, word, found))
                # One with both parts is right, and letter by letter it is the first one of one that comes first.
                together = [SAID[one.said().index(s) * many + other.said().index(t)] for s, t in zip(*firsts)]
                self.assertTrue(right(wish, word, "".join(together)))
                self.assertEqual(answer_at(wish, word, answer_index(wish, word, found)), found)

    def test_levels(self):
        told = set()
        for one, other in couples():
            found = levels_of(one, other, both(one, other))
            if found:
                self.assertEqual(LEVELS.index(found[2]), min(LEVELS.index(found[0]), LEVELS.index(found[1])))
                told.add(found[2])
        self.assertEqual(told, set(LEVELS))

    def test_put_together_again(self):
        wish = both(both(two(), two()), three())
        self.assertEqual(wish.said(), SAID[:12])
        self.assertEqual(answers_many(wish, "aaaa"), 2 * 2 * 18)
        self.assertEqual(level(wish), "none")
        wish = both(both(three(), three()), one_letter())
        self.assertEqual(wish.said(), SAID[:9])
        self.assertEqual(level(wish), "marks")


class OneOf(unittest.TestCase):

    def test_the_pairs(self):
        for one, other in couples():
            before = as_told(one), as_told(other)
            wish = one_of(one, other)
            first = len(one.said())
            self.assertEqual(wish.given(), one.given())
            self.assertEqual(wish.said(), SAID[:first + len(other.said())])
            old = {**{SAID[k]: (0, s) for k, s in enumerate(one.said())},
                   **{SAID[first + k]: (1, s) for k, s in enumerate(other.said())}}
            cells = [x + s for x in wish.given() for s in wish.said()]
            due = {p + q for p in cells for q in cells if old[p[1]][0] == old[q[1]][0]
                   and p[0] + old[p[1]][1] + q[0] + old[q[1]][1] in [one, other][old[p[1]][0]].pairs()}
            self.assertEqual(wish.pairs(), ordered(wish, due))
            self.assertEqual((as_told(one), as_told(other)), before)

    def test_right_answers(self):
        for one, other in couples()[:30]:
            wish = one_of(one, other)
            first = len(one.said())
            for word in words(one.given(), 3) + [one.given() * 4, one.given()[0] * 7]:
                self.assertEqual(answers_many(wish, word), answers_many(one, word) + answers_many(other, word))
                found = [first_answer(one, word), first_answer(other, word)]
                due = None
                if found[0] is not None:
                    due = "".join(SAID[one.said().index(s)] for s in found[0])
                elif found[1] is not None:
                    due = "".join(SAID[first + other.said().index(s)] for s in found[1])
                self.assertEqual(first_answer(wish, word), due)

    def test_levels(self):
        told = set()
        for one, other in couples():
            found = levels_of(one, other, one_of(one, other))
            if found:
                places = [LEVELS.index(name) for name in found]
                self.assertEqual(places[2] >= 2, max(places[:2]) >= 2)
                self.assertEqual(places[2] == 3, max(places[:2]) == 3)
                self.assertGreaterEqual(places[2], max(places[:2]))
                told.add(found[2])
        self.assertEqual(told, set(LEVELS))

    def test_two_that_are_none_alone(self):
        # Rings of an even number of houses, or of a number that can be divided by three: not all of them.
        self.assertEqual(level(one_of(two(), Wish("a", "XYZ", ["aXaY", "aYaZ", "aZaX"]))), "none")
        with_a = Wish("ab", "X", ["aXaX", "aXbX", "bXaX"])
        with_b = Wish("ab", "X", ["bXbX", "aXbX", "bXaX"])
        self.assertEqual(level(one_of(with_a, with_b)), "none")


class WrongCouples(unittest.TestCase):

    def most_of(self, call, one, other):
        with self.assertRaises(TooMany) as caught:
            call(one, other)
        return caught.exception.most

    def test_no_given(self):
        wishes = [Wish("a", "X", []), Wish("b", "X", []), Wish("ab", "X", []), Wish("ba", "X", []), Wish("abc", "X", []),
                  Wish("acb", "X", [])]
        for one, other in permutations(wishes, 2):
            for call in (both, one_of):
                self.assertRaises(NoGiven, call, one, other)
        large = wide_wish("b", SAID, [])
        for call in (both, one_of):
            self.assertRaises(NoGiven, call, large, wide_wish("a", SAID, []))

    def test_too_many(self):
        for one, other in [(2, 13), (13, 2), (1, 26), (26, 1), (5, 5), (3, 8), (4, 6)]:
            wish = both(wide_wish("a", SAID[:one], []), wide_wish("a", SAID[-other:], []))
            self.assertEqual(wish.said(), SAID[:one * other])
        for one, other in [(3, 9), (9, 3), (2, 14), (26, 2), (26, 26)]:
            self.assertEqual(self.most_of(both, wide_wish("a", SAID[:one], []), wide_wish("a", SAID[:other], [])), 26)
        for one, other in [(13, 13), (1, 25), (25, 1), (20, 6)]:
            wish = one_of(wide_wish("a", SAID[:one], []), wide_wish("a", SAID[-other:], []))
            self.assertEqual(wish.said(), SAID[:26])
        for one, other in [(13, 14), (26, 1), (1, 26), (26, 26)]:
            self.assertEqual(self.most_of(one_of, wide_wish("a", SAID[:one], []), wide_wish("a", SAID[:other], [])), 26)

    def test_wishes_with_many_tables_are_let(self):
        wish = over_200_tables()[0]
        self.assertEqual(one_of(wish, wish).said(), "ABCDEFGH")
        self.assertEqual(both(wish, wish).said(), SAID[:16])
        self.assertEqual(turned(turned(wish)), wish)


class Turned(unittest.TestCase):

    def test_the_pairs(self):
        for wish in some_wishes():
            before = as_told(wish)
            found = turned(wish)
            self.assertEqual((found.given(), found.said()), (wish.given(), wish.said()))
            self.assertEqual(found.pairs(), ordered(wish, {pair[2:] + pair[:2] for pair in wish.pairs()}))
            self.assertEqual(turned(found), wish)
            self.assertEqual(as_told(wish), before)

    def test_answers_and_levels(self):
        for wish in some_wishes() + [nearly_nameless([]), nearly_nameless(["aXaW"])]:
            other = turned(wish)
            for word in words(wish.given(), 3) + [wish.given() * 3]:
                self.assertEqual(answers_many(other, word[::-1]), answers_many(wish, word))
            found = levels_of(wish, other)
            if found:
                self.assertEqual(found[0], found[1])


class Seen(unittest.TestCase):

    def check(self, wish, given, old):
        before = as_told(wish)
        found = seen(wish, given, old)
        self.assertEqual((found.given(), found.said()), (given, wish.said()))
        back = dict(zip(given, old))
        cells = [x + s for x in given for s in wish.said()]
        due = {p + q for p in cells for q in cells if back[p[0]] + p[1] + back[q[0]] + q[1] in wish.pairs()}
        self.assertEqual(found.pairs(), ordered(found, due))
        self.assertEqual(as_told(wish), before)
        return found

    def test_the_pairs_and_levels(self):
        told = set()
        for wish in some_wishes() + [nearly_nameless([])]:
            for given in ("a", "z", "ab", "ba", "xyz", "cab"):
                for row in product(wish.given(), repeat=len(given)):
                    found = self.check(wish, given, "".join(row))
                    both_levels = levels_of(wish, found)
                    if both_levels:
                        places = [LEVELS.index(name) for name in both_levels]
                        self.assertGreaterEqual(places[1], places[0])
                        if set(row) == set(wish.given()):
                            self.assertEqual(places[0], places[1])
                        told.add(places[1] > places[0])
        self.assertEqual(told, {True, False})

    def test_answers(self):
        wish = whole()
        other = seen(wish, "xyz", "caa")
        for word in words("xyz", 4):
            old = "".join({"x": "c", "y": "a", "z": "a"}[letter] for letter in word)
            self.assertEqual(first_answer(other, word), first_answer(wish, old))

    def test_no_wish(self):
        for wish in [three(), whole(), wide_wish("abcd", "X", [])]:
            for value in odd_values() + ["", "abcd", "aa", "aba", "A", "aB", "a1", ["a"], ("a",), None, 1, True]:
                if value in ("a", "b"):
                    continue
                for old in ("a", None, "", "zz"):
                    with self.assertRaises(NoWish) as caught:
                        seen(wish, value, old)
                    self.assertEqual(caught.exception.part, "given")

    def test_no_letters(self):
        for wish in [three(), whole()]:
            for given in ("a", "ab", "zyx"):
                wrong = ["", "a" * (len(given) + 1), "a" * (len(given) - 1), "b" * len(given), "X" * len(given),
                         "a" * (len(given) - 1) + "d", ["a"] * len(given), ("a",) * len(given)]
                for value in odd_values() + wrong:
                    if isinstance(value, str) and len(value) == len(given) and set(value) <= set(wish.given()):
                        continue
                    self.assertRaises(NoLetters, seen, wish, given, value)

    def test_of_many_given_letters(self):
        wish = read_wish("given abcde\nsaid X\npairs aXbX dXeX eXdX")
        self.assertEqual(wish_text(seen(wish, "qr", "ed")), "given qr\nsaid X\npairs qXrX rXqX")


class Struck(unittest.TestCase):

    def test_the_pairs_and_levels(self):
        told = set()
        for wish in some_wishes() + [nearly_nameless([]), nearly_nameless(["aWbW", "bWaW"])]:
            before = as_told(wish)
            said = wish.said()
            for many in range(len(said)):
                for row in permutations(said, many):
                    found = struck(wish, "".join(row))
                    self.assertEqual(found.given(), wish.given())
                    self.assertEqual(found.said(), "".join(s for s in said if s not in row))
                    self.assertEqual(found.pairs(), [p for p in wish.pairs() if p[1] not in row and p[3] not in row])
                    if list(row) == sorted(row):
                        levels = levels_of(wish, found)
                        if levels:
                            self.assertLessEqual(LEVELS.index(levels[1]), LEVELS.index(levels[0]))
                            told.add(levels[0] == levels[1])
            self.assertEqual(as_told(wish), before)
        self.assertEqual(told, {True, False})

    def test_told_ones(self):
        self.assertEqual(struck(two(), "X").pairs(), [])
        self.assertEqual(struck(two(), "X").said(), "Y")
        self.assertEqual(struck(three(), ""), three())
        self.assertEqual(wish_text(struck(three(), "Y")), "given a\nsaid XZ\npairs aXaZ aZaX")

    def test_no_letters(self):
        for wish, wrong in [(two(), ["XY", "YX", "XX", "Z", "x", "a", "XYX", "X ", " "]),
                            (three(), ["XYZ", "ZXY", "XX", "XXY", "W", "XW", "aX", "XYZX"]),
                            (one_letter(), ["X", "XX", "Y"])]:
            for value in odd_values() + wrong + [["X"], ("X",), {"X": "X"}, None, 0, True]:
                if value == "" or value == "X" and len(wish.said()) > 1:
                    continue
                self.assertRaises(NoLetters, struck, wish, value)


class AreWishes(unittest.TestCase):
    """A wish that was returned is a wish for every function."""

    def test_of_more_than_four_letters(self):
        wish = both(three(), Wish("a", "XYZ", ["aXaY", "aYaZ", "aZaX", "aYaX"]))
        self.assertEqual(len(wish.said()), 9)
        self.assertEqual(len(wish.cells()), 9)
        word = "aaaaa"
        many = answers_many(wish, word)
        self.assertEqual(many, answers_many(three(), word) * 5)
        for index in (0, 1, many // 2, many - 1):
            answer = answer_at(wish, word, index)
            self.assertTrue(right(wish, word, answer))
            self.assertEqual(answer_index(wish, word, answer), index)
        self.assertEqual(table(wish, ""), tuple(wish.pairs()))
        self.assertIn(table(wish, "a" * 9), longs(wish))
        self.assertEqual(near(wish)[0], "yes")
        self.assertEqual(nameless(wish)[0], "no")
        self.assertEqual(level(wish), "marks")
        self.assertEqual(read_wish(wish_text(wish)), wish)
        self.assertEqual(struck(struck(wish, "ABC"), "DEFGH").said(), "I")
        self.assertEqual(both(struck(wish, "AB"), two()).said(), SAID[:14])


if __name__ == "__main__":
    unittest.main()
