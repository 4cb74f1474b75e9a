"""[10] (and [2], [3], [4] for it): rings without an answer."""

import unittest

from nearwish.errors import NoNumber, NoWord, TooMany
from nearwish.lengths import lengths, rings_modulo, unanswered
from nearwish.rings import first_answer
from nearwish.tables import start, tables
from nearwish.wishes import Wish, wide_wish

from kinds import (all_pairs, as_told, chance_wish, just_200_tables, odd_values, one_letter, over_200_tables,
                   round_dances, some_wishes, three, two, whole)
from plain import Sets, all_words

SMALL = [two(), three(), whole(), one_letter(), Wish("a", "X", []), Wish("zm", "QB", []),
         Wish("a", "XYZ", ["aXaY", "aYaZ", "aZaX"]), Wish("ba", "YX", all_pairs("ba", "YX")),
         Wish("ba", "XY", ["bXaX", "bYaY", "aXbY", "aYbX", "bXbX"]), chance_wish(82, "ab", "XY", 0.65),
         chance_wish(120, "ab", "XY", 0.25), chance_wish(27, "a", "XYZW", 0.35), chance_wish(16, "abc", "XYZ", 0.65)]

# Rings of one letter have an answer if the number of their houses is even and not 2.
EVEN_FROM_4 = wide_wish("a", "UVWXYZ", ["aUaV", "aVaW", "aWaX", "aXaU", "aXaY", "aYaZ", "aZaU"])


def by_number(value, least, most):
    return type(value) is int and least <= value <= most


def right_words(wish, houses):
    return [word for word in all_words(wish, houses, houses) if first_answer(wish, word) is not None]


class Unanswered(unittest.TestCase):

    def test_of_the_document(self):
        self.assertEqual(unanswered(two(), 1), "a")

    def test_beside_all_rings(self):
        some = 0
        for wish in SMALL:
            m, p = start(wish)
            for least in range(1, 5):
                most = max(least, m + 1) + p
                if len(wish.given()) ** most > 5000:
                    continue
                some += 1
                found = [word for word in all_words(wish, least, most) if first_answer(wish, word) is None][:1]
                self.assertEqual(unanswered(wish, least), found[0] if found else None, least)
        self.assertGreater(some, 30)

    def test_each_least(self):
        for least in range(1, 61):
            self.assertEqual(unanswered(two(), least), "a" * (least if least % 2 == 1 else least + 1))
            self.assertEqual(unanswered(three(), least), "a" if least == 1 else None)
            self.assertIs(unanswered(one_letter(), least), None)
            self.assertEqual(unanswered(Wish("zm", "QB", []), least), "z" * least)
            dance = unanswered(Wish("a", "XYZ", ["aXaY", "aYaZ", "aZaX"]), least)
            self.assertEqual(dance, "a" * (least + 1 if least % 3 == 0 else least))

    def test_all_rings_ahead_have_an_answer(self):
        for wish in [whole(), chance_wish(82, "ab", "XY", 0.65), chance_wish(27, "a", "XYZW", 0.35)]:
            for least in range(1, 61, 3):
                word = unanswered(wish, least)
                if word is None:
                    continue
                self.assertGreaterEqual(len(word), least)
                self.assertIs(first_answer(wish, word), None)
                self.assertLess(len(word), max(least, start(wish)[0] + 1) + start(wish)[1])
                for other in all_words(wish, least, min(len(word), 8)):
                    if other == word:
                        break
                    self.assertIsNot(first_answer(wish, other), None)

    def test_only_short_rings_have_none(self):
        wish = Wish("a", "XY", ["aXaY", "aYaX", "aXaX"])
        self.assertIs(unanswered(wish, 1), None)
        tail = Wish("a", "XYZ", ["aXaY", "aYaZ", "aZaX", "aXaX"])
        found = [n for n in range(1, 9) if first_answer(tail, "a" * n) is None]
        self.assertEqual(found, [])
        gap = Wish("a", "XYZW", ["aXaY", "aYaZ", "aZaX", "aZaW", "aWaX"])
        missing = [n for n in range(1, 20) if first_answer(gap, "a" * n) is None]
        self.assertEqual(missing, [1, 2, 5])
        for least in range(1, 61):
            later = [n for n in missing if n >= least]
            self.assertEqual(unanswered(gap, least), "a" * later[0] if later else None)

    def test_wrong_numbers(self):
        for value in odd_values() + [0, 61]:
            if not by_number(value, 1, 60):
                self.assertRaises(NoNumber, unanswered, two(), value)

    def test_too_many_tables(self):
        for value in [1, 60, 0, None, "a", []]:
            with self.assertRaises(TooMany) as caught:
                unanswered(over_200_tables()[0], value)
            self.assertEqual(caught.exception.most, 200)


class Lengths(unittest.TestCase):

    def check(self, wish, word, found):
        """The flags are those of the rings, and both lists are as short as can be."""
        self.assertIsInstance(found, tuple)
        turn = found[1]
        ahead = found[0]
        self.assertIsInstance(ahead, list)
        self.assertIsInstance(turn, list)
        self.assertGreater(len(turn), 0)
        many = len(ahead) + 3 * len(turn) + 8
        flags = [first_answer(wish, word * n) is not None for n in range(1, many + 1)]
        self.assertEqual([flag for flag in ahead + turn * many][:many], flags)
        self.assertEqual({type(flag) for flag in ahead + turn}, {bool})
        for size in range(1, len(turn)):
            self.assertFalse(len(turn) % size == 0 and turn == turn[:size] * (len(turn) // size))
        if ahead:
            self.assertIsNot(ahead[-1], turn[-1])

    def test_of_the_document(self):
        self.assertEqual(lengths(two(), "a"), ([], [False, True]))

    def test_beside_the_rings(self):
        shapes = set()
        for wish in SMALL + some_wishes() + [EVEN_FROM_4]:
            for word in all_words(wish, 1, 3 if len(wish.given()) < 3 else 2):
                found = lengths(wish, word)
                self.check(wish, word, found)
                shapes.add((len(found[0]) > 0, len(found[1]) > 1))
        self.assertEqual(len(shapes), 4)

    def test_told_ones(self):
        self.assertEqual(lengths(three(), "a"), ([False], [True]))
        self.assertEqual(lengths(three(), "aa"), ([], [True]))
        self.assertEqual(lengths(two(), "aa"), ([], [True]))
        self.assertEqual(lengths(Wish("a", "X", []), "aaa"), ([], [False]))
        gap = Wish("a", "XYZW", ["aXaY", "aYaZ", "aZaX", "aZaW", "aWaX"])
        self.assertEqual(lengths(gap, "a"), ([False, False, True, True, False], [True]))
        self.assertEqual(lengths(gap, "aa"), ([False], [True]))
        self.assertEqual(lengths(EVEN_FROM_4, "a"), ([False, False], [False, True]))
        dances = lengths(round_dances("a"), "a")
        self.assertEqual(dances, ([], [n % 5 == 0 or n % 7 == 0 for n in range(1, 36)]))
        self.assertEqual(lengths(round_dances("a"), "a" * 7), ([], [True]))

    def test_two_rounds_that_are_repeated(self):
        # All rings of even length, by rounds of 2 and of 4: as short as can be, it is a round of 2.
        wish = wide_wish("a", "UVWXYZ", ["aUaV", "aVaU", "aWaX", "aXaY", "aYaZ", "aZaW"])
        self.assertEqual(lengths(wish, "a"), ([], [False, True]))

    def test_more_than_200_tables_are_let(self):
        for wish in over_200_tables():
            for word in all_words(wish, 1, 2) + [wish.given() * 20]:
                self.check(wish, word, lengths(wish, word))

    def test_long_words(self):
        for wish in [whole(), two()]:
            for word in [wish.given()[0] * 59, (wish.given() * 60)[:60]]:
                self.check(wish, word, lengths(wish, word))

    def test_wrong_words(self):
        for wish in [two(), whole(), over_200_tables()[0]]:
            for value in odd_values():
                if not (isinstance(value, str) and value and set(value) <= set(wish.given())):
                    self.assertRaises(NoWord, lengths, wish, value)

    def test_new_lists(self):
        wish = two()
        found = lengths(wish, "a")
        found[0].append(True)
        found[1].clear()
        self.assertEqual(lengths(wish, "a"), ([], [False, True]))


class RingsModulo(unittest.TestCase):

    def test_of_the_document(self):
        self.assertEqual(rings_modulo(two(), 4, 7), 1)

    def test_ring_by_ring(self):
        for wish in SMALL + [just_200_tables()]:
            for houses in range(1, 8):
                if len(wish.given()) ** houses > 300:
                    continue
                many = len(right_words(wish, houses))
                for modulus in (2, 3, 7, 10 ** 9):
                    self.assertEqual(rings_modulo(wish, houses, modulus), many % modulus)

    def test_many_houses(self):
        most = 10 ** 30
        self.assertEqual(rings_modulo(two(), most, 10 ** 9), 1)
        self.assertEqual(rings_modulo(two(), most - 1, 10 ** 9), 0)
        self.assertEqual(rings_modulo(Wish("abc", "X", all_pairs("abc", "X")), most, 10 ** 9), pow(3, most, 10 ** 9))
        self.assertEqual(rings_modulo(Wish("ab", "X", []), most, 2), 0)
        self.assertEqual(rings_modulo(Wish("ab", "XY", all_pairs("ab", "XY")), most, 2), 0)

    def test_by_steps_of_one_letter(self):
        """Beside a count that goes on letter by letter."""
        for wish in [whole(), chance_wish(82, "ab", "XY", 0.65), chance_wish(16, "abc", "XYZ", 0.65)]:
            sets = Sets(wish)
            counts = {tuple(wish.pairs()): 1}
            for houses in range(1, 70):
                many = sum(number for strings, number in counts.items() for x in wish.given()
                           if any((x + s) * 2 in strings for s in wish.said()))
                for modulus in (2, 10 ** 9, 999999937):
                    self.assertEqual(rings_modulo(wish, houses, modulus), many % modulus)
                after = {}
                for strings, number in counts.items():
                    for x in wish.given():
                        step = sets.step(strings, x)
                        after[step] = after.get(step, 0) + number
                counts = after

    def test_wrong_numbers(self):
        for value in odd_values() + [0, 10 ** 30 + 1]:
            if not by_number(value, 1, 10 ** 30):
                self.assertRaises(NoNumber, rings_modulo, two(), value, 7)
        for value in odd_values() + [1, 10 ** 9 + 1, 0]:
            if not by_number(value, 2, 10 ** 9):
                self.assertRaises(NoNumber, rings_modulo, two(), 4, value)

    def test_both_numbers_wrong(self):
        for value in (0, None, True, 10 ** 30 + 1, "4"):
            self.assertRaises(NoNumber, rings_modulo, two(), value, 1)
            self.assertRaises(NoNumber, rings_modulo, two(), value, value)

    def test_too_many_tables(self):
        for houses, modulus in [(1, 2), (0, 1), (None, None), (True, 7)]:
            with self.assertRaises(TooMany) as caught:
                rings_modulo(over_200_tables()[0], houses, modulus)
            self.assertEqual(caught.exception.most, 200)

    def test_a_wish_with_just_200_tables(self):
        wish = just_200_tables()
        self.assertEqual(len(tables(wish)), 200)
        self.assertEqual(rings_modulo(wish, 10 ** 30, 10 ** 9) % 2, rings_modulo(wish, 10 ** 30, 2))

    def test_what_is_passed_stays_as_it_was(self):
        wish = whole()
        before = as_told(wish)
        rings_modulo(wish, 10, 10)
        unanswered(wish, 3)
        lengths(wish, "ac")
        self.assertEqual(as_told(wish), before)


if __name__ == "__main__":
    unittest.main()
