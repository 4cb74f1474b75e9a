"""[20] (and [2], [3], [4] for it): look tables."""

import unittest
from itertools import product
from random import Random

from nearwish.errors import NoLook, TooMany
from nearwish.levels import level
from nearwish.looks import look_fault, look_table
from nearwish.rings import right
from nearwish.wishes import Wish, wide_wish

from kinds import (all_pairs, as_told, chance_wish, nearly_nameless, odd_values, one_letter, over_200_tables, some_wishes,
                   three, two, whole, words)

# By the number of given letters: the greatest look.
MOST = {1: 5, 2: 2, 3: 1, 4: 0, 26: 0}


def of_length(wish, many):
    return ["".join(row) for row in product(wish.given(), repeat=many)]


def told_fault(wish, look, thing):
    """The fault, by the words of [20]."""
    seen = of_length(wish, 2 * look + 1)
    if not isinstance(thing, dict) or set(thing) != set(seen):
        return ("form",)
    if any(type(letter) is not str or letter not in list(wish.said()) for letter in thing.values()):
        return ("form",)
    for word in of_length(wish, 2 * look + 2):
        if word[look] + thing[word[:-1]] + word[look + 1] + thing[word[1:]] not in wish.pairs():
            return ("pair", word)
    return None


def searched(wish, look):
    """Whether there is a look table, by a search through all letters; None if there are too many."""
    seen = of_length(wish, 2 * look + 1)
    if len(wish.said()) ** len(seen) > 7000:
        return None
    pairs = set(wish.pairs())
    links = [(seen.index(word[:-1]), seen.index(word[1:]), word[look], word[look + 1])
             for word in of_length(wish, 2 * look + 2)]
    return any(all(x + row[k] + y + row[j] in pairs for k, j, x, y in links)
               for row in product(wish.said(), repeat=len(seen)))


def needed(wish, look, thing):
    """The pairs that a table needs."""
    found = {word[look] + thing[word[:-1]] + word[look + 1] + thing[word[1:]] for word in of_length(wish, 2 * look + 2)}
    return [pair for pair in all_pairs(wish.given(), wish.said()) if pair in found]


def drawn_table(chance, given, said, look):
    return {"".join(row): chance.choice(said) for row in product(given, repeat=2 * look + 1)}


class LookTable(unittest.TestCase):

    def test_told_ones(self):
        self.assertEqual(look_table(one_letter(), 0), {"a": "X"})
        self.assertEqual(look_table(one_letter(), 5), {"a" * 11: "X"})
        self.assertIsNone(look_table(three(), 5))
        self.assertIsNone(look_table(whole(), 0))
        self.assertEqual(look_table(Wish("ba", "XY", ["aXbY", "bYaX", "aXaX", "bYbY"]), 0), {"a": "X", "b": "Y"})
        # House by house the letter of the next house is told: it needs a look.
        after = {"a": "X", "b": "Y"}
        pairs = [x + after[y] + y + s for x in "ab" for y in "ab" for s in "XY"]
        self.assertIsNone(look_table(Wish("ab", "XY", pairs), 0))
        found = look_table(Wish("ab", "XY", pairs), 1)
        self.assertEqual(found, {word: after[word[2]] for word in words("ab", 3)[-8:]})

    def check(self, wish, look):
        """Whether there is a table; that it is right if there is one."""
        found = look_table(wish, look)
        if found is not None:
            self.assertIs(type(found), dict)
            self.assertEqual(set(found), set(of_length(wish, 2 * look + 1)))
            self.assertIsNone(told_fault(wish, look, found))
            self.assertIsNone(look_fault(wish, look, found))
        return found is not None

    def test_beside_a_search(self):
        chance = Random(1)
        seen = {}
        wishes = some_wishes() + [nearly_nameless([]), nearly_nameless(["aWbW", "bWaW"])]
        for seed in range(400):
            wishes.append(chance_wish(seed, chance.choice(["a", "ab", "ba", "cab"]), chance.choice(["X", "YX", "XZY"]),
                                      chance.choice([0.3, 0.5, 0.6, 0.7, 0.8, 0.9])))
        for wish in wishes:
            for look in range(min(MOST[len(wish.given())], 2) + 1):
                expected = searched(wish, look)
                found = self.check(wish, look)
                if expected is not None:
                    self.assertEqual(found, expected)
                    seen.setdefault((len(wish.given()), look, found), []).append(wish)
        for given, look in [(1, 0), (1, 1), (1, 2), (2, 0), (2, 1), (3, 0)]:
            for found in (True, False):
                self.assertGreater(len(seen[given, look, found]), 3, (given, look, found))

    def test_a_longer_look_does_as_well(self):
        for seed in range(200):
            wish = chance_wish(seed, "ab", "XYZ", 0.4)
            found = [look_table(wish, look) is not None for look in range(3)]
            self.assertEqual(found, sorted(found))

    def test_just_the_pairs_that_are_needed(self):
        chance = Random(2)
        none = 0
        for given, said, look in [("a", "XY", 3), ("ab", "XYZ", 1), ("ba", "XYZW", 2), ("abc", "XYZ", 1),
                                  ("bca", "YX", 0), ("ab", "XYZW", 2)] * 6:
            plain = wide_wish(given, said, [])
            table = drawn_table(chance, given, said, look)
            pairs = needed(plain, look, table)
            wish = wide_wish(given, said, pairs)
            self.assertTrue(self.check(wish, look))
            self.assertIsNone(look_fault(wish, look, table))
            for pair in chance.sample(pairs, min(len(pairs), 4)):
                less = wide_wish(given, said, [other for other in pairs if other != pair])
                fault = look_fault(less, look, table)
                self.assertEqual(fault, told_fault(less, look, table))
                self.assertEqual(fault[0], "pair")
                none += not self.check(less, look)
        self.assertGreater(none, 20)

    def test_more_than_four_letters(self):
        chance = Random(3)
        for given in ("ab", "abc", "abcd", "abcdefghijklmnopqrstuvwxyz"):
            look = MOST[len(given)]
            said = "ABCDEFGHIJKLM"
            table = drawn_table(chance, given, said, look)
            wish = wide_wish(given, said, needed(wide_wish(given, said, []), look, table))
            self.assertTrue(self.check(wish, look))
            self.assertRaises(NoLook, look_table, wish, look + 1)

    def test_answers_to_all_rings(self):
        chance = Random(4)
        for given, said, look in [("a", "XY", 5), ("ab", "XYZ", 1), ("ab", "XYZW", 2), ("abc", "XYZ", 1), ("ba", "X", 2)]:
            drawn = drawn_table(chance, given, said, look)
            wish = wide_wish(given, said, needed(wide_wish(given, said, []), look, drawn))
            table = look_table(wish, look)
            for word in words(given, 6) + ["".join(chance.choice(given) for _ in range(60)) for _ in range(20)]:
                size = len(word)
                seen = ["".join(word[j % size] for j in range(k - look, k + look + 1)) for k in range(size)]
                self.assertTrue(right(wish, word, "".join(table[part] for part in seen)))

    def test_then_the_level_is_nameless(self):
        with_one = 0
        for seed in range(150):
            wish = chance_wish(seed, "ab", "XYZ", 0.5)
            try:
                found = level(wish)
            except TooMany:
                continue
            for look in range(3):
                if look_table(wish, look) is not None:
                    self.assertEqual(found, "nameless")
                    with_one += 1
        self.assertGreater(with_one, 50)

    def test_new_ones(self):
        wish = Wish("ab", "XY", all_pairs("ab", "XY"))
        before = as_told(wish)
        found = look_table(wish, 1)
        kept = dict(found)
        found.clear()
        self.assertEqual(look_table(wish, 1), kept)
        self.assertEqual(look_table(Wish("ab", "XY", all_pairs("ab", "XY")[::-1]), 1), kept)
        self.assertEqual(as_told(wish), before)


class LookFault(unittest.TestCase):

    def right_ones(self):
        chance = Random(5)
        for given, said, look in [("a", "XY", 0), ("a", "XY", 4), ("ab", "XYZ", 0), ("ba", "XYZ", 1), ("ab", "WXYZ", 2),
                                  ("abc", "XYZ", 1), ("cab", "ZYX", 0)]:
            table = drawn_table(chance, given, said, look)
            yield wide_wish(given, said, needed(wide_wish(given, said, []), look, table)), look, table

    def test_changed_at_each_place(self):
        seen = set()
        for wish, look, table in self.right_ones():
            self.assertIsNone(look_fault(wish, look, table))
            for word in table:
                for letter in list(wish.said()) + ["a", "V", "XY", "", None, 0, True, ["X"], ("X",), {}]:
                    changed = {**table, word: letter}
                    kept = dict(changed)
                    fault = look_fault(wish, look, changed)
                    self.assertEqual(fault, told_fault(wish, look, changed))
                    self.assertEqual(changed, kept)
                    seen.add(fault and fault[0])
                less = {other: letter for other, letter in table.items() if other != word}
                self.assertEqual(look_fault(wish, look, less), ("form",))
                self.assertEqual(look_fault(wish, look, {**less, word + "a": "X"}), ("form",))
                self.assertEqual(look_fault(wish, look, {**less, word[1:]: "X"}), ("form",))
                self.assertEqual(look_fault(wish, look, {**less, (word,): "X"}), ("form",))
                self.assertEqual(look_fault(wish, look, {**less, word[1:] + "d": "X"}), ("form",))
                self.assertEqual(look_fault(wish, look, {**table, word * 2: "X"}), ("form",))
                self.assertEqual(look_fault(wish, look, {**table, 0: "X"}), ("form",))
        self.assertEqual(seen, {None, "form", "pair"})

    def test_drawn_tables(self):
        chance = Random(6)
        for wish, look, table in self.right_ones():
            for _ in range(30):
                drawn = drawn_table(chance, wish.given(), wish.said(), look)
                self.assertEqual(look_fault(wish, look, drawn), told_fault(wish, look, drawn))

    def test_no_dict(self):
        for wish, look, table in self.right_ones():
            for value in odd_values() + [list(table), list(table.items()), tuple(table.items()), None, {}]:
                fault = told_fault(wish, look, value)
                self.assertEqual(look_fault(wish, look, value), fault)
                # Among the odd values, there is a dict of one word.
                if not isinstance(value, dict):
                    self.assertEqual(fault, ("form",))

    def test_of_another_look(self):
        wish = Wish("ab", "XY", all_pairs("ab", "XY"))
        self.assertEqual(look_fault(wish, 0, look_table(wish, 1)), ("form",))
        self.assertEqual(look_fault(wish, 1, look_table(wish, 0)), ("form",))
        self.assertIsNone(look_fault(wish, 1, look_table(wish, 1)))

    def test_the_first_word_in_order(self):
        wish = Wish("ba", "XY", [])
        self.assertEqual(look_fault(wish, 0, {"a": "X", "b": "X"}), ("pair", "bb"))
        wish = Wish("ba", "XY", ["bXbX", "aXaX", "bXaX"])
        self.assertEqual(look_fault(wish, 0, {"a": "X", "b": "X"}), ("pair", "ab"))


class NoLooks(unittest.TestCase):

    def test_no_look(self):
        letters = "abcdefghijklmnopqrstuvwxyz"
        for many, most in MOST.items():
            wish = wide_wish(letters[:many], "XY", [])
            for value in odd_values() + [-1, most + 1, most + 2, 6, 7, 100, True, False, None, "0", [0], (0,)]:
                if type(value) is int and 0 <= value <= most:
                    self.assertIsNone(look_table(wish, value))
                    continue
                self.assertRaises(NoLook, look_table, wish, value)
                for thing in ({}, None, []):
                    self.assertRaises(NoLook, look_fault, wish, value, thing)

    def test_five_given_letters_and_more(self):
        for many in range(4, 27):
            wish = wide_wish("abcdefghijklmnopqrstuvwxyz"[:many], "X", [])
            self.assertIsNone(look_table(wish, 0))
            self.assertRaises(NoLook, look_table, wish, 1)

    def test_no_tables_are_asked_for(self):
        wish = over_200_tables()[0]
        self.assertRaises(NoLook, look_table, wish, 3)
        self.assertEqual(look_fault(wish, 0, {}), ("form",))
        self.assertIsNone(look_table(two(), 0))


if __name__ == "__main__":
    unittest.main()
