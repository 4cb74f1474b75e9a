"""[14] and least_said of [23] (and [2], [3], [4] for them): levels."""

import unittest
from itertools import combinations, product

from nearwish.errors import NoLevel, TooMany
from nearwish.levels import least_said, level
from nearwish.rings import first_answer
from nearwish.tables import longs, start
from nearwish.wishes import Wish, wide_wish

from kinds import (all_pairs, as_told, chance_wish, crowned, either, hard_to_end, just_200_tables, many_longs,
                   many_shorts, nearly_nameless, odd_values, one_letter, over_200_tables, round_dances, some_wishes,
                   three, turned, two, whole)
from plain import Runs, Sets, all_words, greatest_rectangles, is_book, is_nameless_book, tame

LEVELS = ["none", "whole", "marks", "nameless"]


def searched_level(wish):
    """The level, by a search over all books of greatest rectangles and all run cells; None if it takes too long."""
    sets = Sets(wish)
    there = [strings for _, strings in sets.tables() if strings in sets.longs]
    if any(not any((x + s) * 2 in strings for s in wish.said()) for strings in there for x in wish.given()):
        return "none"
    rectangles = [greatest_rectangles(wish, strings) for strings in there]
    runs = Runs(sets)
    cells = [runs.run_cells(word) for word in runs.shorts]
    many = 1
    for options in rectangles + cells:
        many *= len(options)
    if many > 2000:
        return None
    books = [dict(zip(there, row)) for row in product(*rectangles)]
    books = [book for book in books if is_book(wish, there, book)]
    if not books:
        return "whole"
    for book, row in product(books, product(*cells)):
        if is_nameless_book(runs, there, (book, dict(zip(runs.shorts, row)))):
            return "nameless"
    return "marks"


class Level(unittest.TestCase):

    def test_of_the_document(self):
        self.assertEqual(level(Wish("a", "XY", ["aXaY", "aYaX"])), "none")
        side = ["cXaX", "cXaY", "aXcX", "aYcX", "cXcX"]
        self.assertEqual(level(Wish("ac", "XYZ", ["aXaY", "aYaX", "aZaZ"] + side)), "whole")
        self.assertEqual(level(Wish("a", "XYZ", ["aXaY", "aXaZ", "aYaX", "aYaZ", "aZaX", "aZaY"])), "marks")
        self.assertEqual(level(Wish("a", "X", ["aXaX"])), "nameless")

    def test_told_ones(self):
        self.assertEqual(level(Wish("a", "X", [])), "none")
        self.assertEqual(level(Wish("ab", "XYZ", all_pairs("ab", "XYZ"))), "nameless")
        self.assertEqual(level(Wish("a", "XYZ", ["aXaY", "aYaZ", "aZaX"])), "none")
        self.assertEqual(level(Wish("a", "XYZ", ["aXaY", "aYaZ", "aZaX", "aYaX"])), "marks")
        self.assertEqual(level(nearly_nameless([])), "marks")
        self.assertEqual(level(nearly_nameless(["aWbW", "bWaW"])), "nameless")
        self.assertEqual(level(hard_to_end()), "marks")
        self.assertEqual(level(turned(hard_to_end())), "marks")

    def test_beside_a_search(self):
        seen = {name: 0 for name in LEVELS}
        wishes = tame(some_wishes()) + [whole(), nearly_nameless([]), nearly_nameless(["aXaW", "bWaX"])]
        for seed in range(40):
            for given, said, share in [("a", "XYZ", 0.4), ("a", "XY", 0.5), ("ab", "XY", 0.7), ("ab", "XYZ", 0.7)]:
                wishes.append(chance_wish(seed, given, said, share))
        wishes += [chance_wish(36, "ab", "XYZ", 0.6), chance_wish(16, "ab", "XYZ", 0.4)]
        wishes.append(chance_wish(179, "a", "XYZ", 0.5))
        for wish in wishes:
            if len(wish.cells()) > 8 or start(wish)[0] > 4:
                continue
            try:
                found = level(wish)
            except TooMany:
                continue
            expected = searched_level(wish)
            if expected is not None:
                self.assertEqual(found, expected)
                seen[found] += 1
        self.assertGreater(min(seen["none"], seen["nameless"]), 20)
        self.assertGreater(min(seen.values()), 0)

    def test_facts(self):
        for wish in [two(), whole(), three(), one_letter(), Wish("a", "XYZ", ["aXaY", "aYaZ", "aZaX", "aYaX"]),
                     chance_wish(82, "ab", "XY", 0.65), chance_wish(16, "ab", "XYZ", 0.4), nearly_nameless([])]:
            found = level(wish)
            m, p = start(wish)
            rings = all_words(wish, m + 1, m + p if len(wish.given()) ** (m + p) < 3000 else m + 1)
            if found != "none":
                self.assertTrue(all(first_answer(wish, word) is not None for word in rings))
            if found == "nameless":
                self.assertTrue(all(first_answer(wish, word) is not None for word in all_words(wish, 1, 5)))
            if found == "none":
                self.assertTrue(any(first_answer(wish, word) is None for word in rings))

    def test_read_the_other_way_round(self):
        for seed in range(30):
            wish = chance_wish(seed, "ab", "XYZ", 0.6)
            try:
                found = level(wish)
            except TooMany:
                continue
            self.assertEqual(level(turned(wish)), found)

    def test_too_many(self):
        # Two of them are of the level "none", which is not told, either.
        for wish, most in [(over_200_tables()[0], 200), (many_longs(), 20), (just_200_tables(), 20),
                           (crowned("a"), 100), (either(crowned("a"), round_dances("a")), 20),
                           (either(crowned("ab"), many_shorts()), 100), (many_shorts(), 24)]:
            with self.assertRaises(TooMany) as caught:
                level(wish)
            self.assertEqual(caught.exception.most, most)

    def test_what_is_passed_stays_as_it_was(self):
        for wish in [two(), whole(), three(), one_letter()]:
            before = as_told(wish)
            self.assertEqual(level(wish), level(wish))
            self.assertEqual(as_told(wish), before)


def with_letters(wish, letters):
    return wide_wish(wish.given(), letters, [p for p in wish.pairs() if p[1] in letters and p[3] in letters])


def searched_least(wish, kind):
    """All sets of letters with the level, of which no letter can be left out."""
    near = []
    for many in range(1, len(wish.said()) + 1):
        for row in combinations(wish.said(), many):
            if LEVELS.index(level(with_letters(wish, "".join(row)))) >= LEVELS.index(kind):
                near.append("".join(row))
    return [letters for letters in near
            if not any(letters.replace(one, "") in near for one in letters)]


def six():
    """Two ways of three unlike letters."""
    other = [pair.replace("X", "U").replace("Y", "V").replace("Z", "W") for pair in three().pairs()]
    return wide_wish("a", "UXVYWZ", three().pairs() + other)


class LeastSaid(unittest.TestCase):

    def test_told_ones(self):
        self.assertEqual(least_said(three(), "marks"), ["XYZ"])
        self.assertEqual(least_said(three(), "whole"), ["XYZ"])
        self.assertEqual(least_said(three(), "nameless"), [])
        self.assertEqual(least_said(two(), "whole"), [])
        self.assertEqual(least_said(whole(), "whole"), ["XYZ"])
        self.assertEqual(least_said(whole(), "marks"), [])
        self.assertEqual(least_said(one_letter(), "nameless"), ["X"])
        wish = Wish("a", "YXZ", all_pairs("a", "XYZ"))
        for kind in LEVELS[1:]:
            self.assertEqual(least_said(wish, kind), ["Y", "X", "Z"])

    def test_several_of_unlike_lengths(self):
        wish = Wish("a", "ZWXY", three().pairs() + ["aWaW"])
        self.assertEqual(least_said(wish, "marks"), ["W", "ZXY"])
        self.assertEqual(least_said(wish, "nameless"), ["W"])
        self.assertEqual(least_said(six(), "marks"), ["UVW", "XYZ"])
        self.assertEqual(least_said(six(), "nameless"), [])
        self.assertEqual(least_said(Wish("a", "WZYX", all_pairs("a", "X") + three().pairs()), "whole"), ["X"])

    def test_the_order(self):
        unlike = [pair for pair in all_pairs("a", "WXYZ") if pair[1] != pair[3]]
        wish = Wish("a", "ZXWY", unlike)
        self.assertEqual(least_said(wish, "marks"), ["ZXW", "ZXY", "ZWY", "XWY"])

    def test_beside_a_search(self):
        seen = set()
        wishes = [wish for wish in tame(some_wishes()) if len(longs(wish)) <= 20 and len(wish.given()) < 3]
        wishes += [six(), nearly_nameless([]), nearly_nameless(["aWbW", "bWaW"]), chance_wish(3, "abc", "WXYZ", 0.9)]
        wishes += [chance_wish(seed, "ab", "WXYZ", 0.8) for seed in range(10)]
        for wish in wishes:
            for kind in LEVELS[1:]:
                try:
                    expected = searched_least(wish, kind)
                except TooMany:
                    continue
                found = least_said(wish, kind)
                self.assertEqual(found, expected)
                self.assertIsInstance(found, list)
                seen.add((kind, min(len(found), 2)))
        for kind in LEVELS[1:]:
            self.assertLessEqual({(kind, 0), (kind, 1), (kind, 2)}, seen)

    def test_no_level(self):
        for wish in [two(), six(), wide_wish("a", "TUVWXYZ", []), many_longs(), crowned("a")]:
            for value in odd_values() + ["none", "Marks", "marks ", "near", "wholemarks", ["marks"], ("whole",), 1, 3]:
                self.assertRaises(NoLevel, least_said, wish, value)

    def test_too_many(self):
        seven = wide_wish("a", "TUVWXYZ", ["aTaT"])
        dances = either(crowned("a"), round_dances("a"))
        for wish, most in [(over_200_tables()[0], 200), (seven, 6), (crowned("a"), 6), (dances, 6), (many_longs(), 20),
                           (just_200_tables(), 20), (many_shorts(), 24)]:
            for kind in LEVELS[1:]:
                with self.assertRaises(TooMany) as caught:
                    least_said(wish, kind)
                self.assertEqual(caught.exception.most, most)
        with self.assertRaises(TooMany) as caught:
            least_said(over_200_tables()[0], "none")
        self.assertEqual(caught.exception.most, 200)

    def test_what_level_raises_for_the_wish_itself(self):
        # With less letters, they have levels, and with some of these the level "nameless".
        for wish, most in [(chance_wish(40, "ab", "XYZ", 0.4), 20), (chance_wish(11, "ab", "XYZ", 0.5), 24),
                           (chance_wish(140, "ab", "XYZ", 0.7), 24)]:
            some = [letters for letters in ("X", "Y", "Z", "XY", "XZ", "YZ")
                    if level(with_letters(wish, letters)) == "nameless"]
            self.assertGreater(len(some), 0)
            for kind in LEVELS[1:]:
                with self.assertRaises(TooMany) as caught:
                    least_said(wish, kind)
                self.assertEqual(caught.exception.most, most)

    def test_six_letters_are_let(self):
        wish = wide_wish("a", "UVWXYZ", all_pairs("a", "UVWXYZ"))
        self.assertEqual(least_said(wish, "nameless"), list("UVWXYZ"))

    def test_new_lists(self):
        wish = one_letter()
        before = as_told(wish)
        least_said(wish, "marks").clear()
        self.assertEqual(least_said(wish, "marks"), ["X"])
        self.assertEqual(as_told(wish), before)


if __name__ == "__main__":
    unittest.main()
