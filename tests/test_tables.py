"""[8], [9] (and [2], [3], [4] for them): the tables of words and of wishes."""

import unittest
from copy import deepcopy

from nearwish.errors import NoLetter, NoNumber, NoTable, NoWord, TooMany
from nearwish.tables import ahead, across, behind, longs, start, table, tables, word_with
from nearwish.wishes import Wish

from kinds import (all_pairs, as_told, chance_wish, just_200_tables, many_longs, odd_values, one_letter,
                   over_200_tables, some_wishes, three, two, whole, words)
from plain import Sets, all_words, slow_table, table_of, tame, word_key


def small_wishes():
    return tame(some_wishes()) + [chance_wish(16, "abc", "XYZ", 0.65), chance_wish(82, "ab", "XY", 0.65), many_longs(),
                    Wish("ba", "XY", ["bXaX", "bYaY", "aXbY", "aYbX", "bXbX", "bYbY"])]


def is_word(value, given):
    return isinstance(value, str) and set(value) <= set(given)


def one_more(strings, wish):
    """The strings with one that is not there, in its place."""
    missing = [pair for pair in all_pairs(wish.given(), wish.said()) if pair not in strings]
    everything = all_pairs(wish.given(), wish.said())
    return tuple(sorted(strings + (missing[0],), key=everything.index))


class Table(unittest.TestCase):

    def test_of_the_document(self):
        self.assertEqual(table(two(), "a"), ("aXaX", "aYaY"))
        with self.assertRaises(NoWord):
            table(two(), "b")

    def test_beside_all_answers(self):
        for wish in some_wishes() + over_200_tables():
            most = 2 if len(wish.cells()) > 6 else 3
            for word in all_words(wish, 0, most):
                self.assertEqual(table(wish, word), slow_table(wish, word))

    def test_long_words(self):
        for wish in some_wishes():
            for word in ["".join(wish.given()[k * k % len(wish.given())] for k in range(60)), wish.given()[-1] * 60]:
                self.assertEqual(table(wish, word), table_of(wish, word))

    def test_the_empty_word_has_the_pairs(self):
        for wish in some_wishes():
            self.assertEqual(table(wish, ""), tuple(wish.pairs()))

    def test_wrong_words(self):
        for wish in [two(), whole(), over_200_tables()[0]]:
            for value in odd_values():
                if not is_word(value, wish.given()):
                    with self.assertRaises(NoWord):
                        table(wish, value)


class Tables(unittest.TestCase):

    def test_beside_the_tables_of_all_words(self):
        for wish in small_wishes():
            found = tables(wish)
            self.assertIsInstance(found, list)
            self.assertEqual(found, Sets(wish).tables())
            self.assertEqual([word_key(wish, word) for word, _ in found],
                             sorted(word_key(wish, word) for word, _ in found))

    def test_first_words_one_by_one(self):
        for wish in [two(), three(), whole(), Wish("a", "XY", ["aXaY"]), chance_wish(82, "ab", "XY", 0.65),
                     Wish("ba", "XY", ["bXaX", "bYaY", "aXbY", "aYbX", "bXbX", "bYbY"])]:
            found = tables(wish)
            first = {}
            most = len(found[-1][0]) + 1
            for word in all_words(wish, 0, most):
                first.setdefault(slow_table(wish, word) if len(word) < 4 else table_of(wish, word), word)
            self.assertEqual(found, [(word, strings) for strings, word in first.items()])

    def test_the_order_is_that_of_the_given_letters(self):
        wish = Wish("ba", "XY", ["bXaX", "aXbY"])
        self.assertEqual([word for word, _ in tables(wish)][:3], ["", "b", "a"])

    def test_just_200(self):
        wish = just_200_tables()
        self.assertEqual(len(tables(wish)), 200)
        self.assertEqual(tables(wish), Sets(wish).tables())

    def test_more_than_200(self):
        self.assertEqual(len(Sets(over_200_tables()[0]).firsts), 201)
        for wish in over_200_tables():
            self.assertRaises(TooMany, tables, wish)
            for call in [lambda: tables(wish), lambda: start(wish), lambda: longs(wish)]:
                with self.assertRaises(TooMany) as caught:
                    call()
                self.assertEqual(caught.exception.most, 200)

    def test_more_than_200_comes_ahead_of_all_other_errors(self):
        wish = over_200_tables()[0]
        good = tuple(wish.pairs())
        for value in odd_values():
            for call in [lambda: behind(wish, value, "a"), lambda: behind(wish, good, value),
                         lambda: ahead(wish, value, good), lambda: ahead(wish, "a", value),
                         lambda: across(wish, value, "a", good), lambda: across(wish, good, value, good),
                         lambda: across(wish, good, "a", value), lambda: word_with(wish, value, 0),
                         lambda: word_with(wish, good, value)]:
                with self.assertRaises(TooMany) as caught:
                    call()
                self.assertEqual(caught.exception.most, 200)

    def test_new_lists(self):
        wish = three()
        found = tables(wish)
        found.clear()
        self.assertEqual(len(tables(wish)), 2)
        self.assertIsNot(tables(wish), tables(wish))


class PutTogether(unittest.TestCase):

    def test_beside_the_table_of_the_word(self):
        for wish in [two(), three(), whole(), one_letter(), chance_wish(82, "ab", "XY", 0.65),
                     Wish("ba", "YX", all_pairs("ba", "YX")), chance_wish(4, "a", "XYZW", 0.2)]:
            some = all_words(wish, 0, 3)
            for first in some:
                for second in some:
                    together = table_of(wish, first + second)
                    self.assertEqual(behind(wish, table_of(wish, first), second), together)
                    self.assertEqual(ahead(wish, first, table_of(wish, second)), together)
                    for letter in wish.given():
                        self.assertEqual(across(wish, table_of(wish, first), letter, table_of(wish, second)),
                                         table_of(wish, first + letter + second))

    def test_with_the_tables_of_the_list(self):
        for wish in small_wishes():
            found = tables(wish)
            for word, strings in found[:12]:
                for other, behind_it in found[-12:]:
                    letter = wish.given()[-1]
                    self.assertEqual(behind(wish, strings, other), table_of(wish, word + other))
                    self.assertEqual(ahead(wish, word, behind_it), table_of(wish, word + other))
                    self.assertEqual(across(wish, strings, letter, behind_it), table_of(wish, word + letter + other))

    def test_the_empty_word(self):
        for wish in small_wishes():
            for _, strings in tables(wish):
                self.assertEqual(behind(wish, strings, ""), strings)
                self.assertEqual(ahead(wish, "", strings), strings)

    def test_long_words(self):
        for wish in [whole(), chance_wish(16, "abc", "XYZ", 0.65)]:
            word = "".join(wish.given()[k * k % len(wish.given())] for k in range(60))
            for first, strings in tables(wish)[:8]:
                self.assertEqual(behind(wish, strings, word), table_of(wish, first + word))
                self.assertEqual(ahead(wish, word, strings), table_of(wish, word + first))


class WrongThings(unittest.TestCase):

    def wrong_tables(self, wish):
        there = [strings for _, strings in tables(wish)]
        other = Wish(wish.given(), wish.said(), [])
        found = odd_values() + [wish.pairs(), list(there[-1]), {pair: True for pair in there[0]}, [there[0]]]
        found += [there[0][::-1], there[0] + there[0][-1:], there[0][1:], there[0][:-1], (there[0],), there]
        found += [table(other, ""), table(three(), "a"), table(two(), "a"), tuple(list(pair) for pair in there[0])]
        found += [there[0] + (0,), there[0] + ([],), tuple(there[0][0]), "".join(there[0]), wish, table, TooMany(200)]
        if len(there[0]) < len(wish.cells()) ** 2:
            found.append(one_more(there[0], wish))
        return [value for value in found if value not in there]

    def test_no_table(self):
        for wish in [whole(), three(), two(), chance_wish(82, "ab", "XY", 0.65)]:
            good = tuple(wish.pairs())
            letter = wish.given()[0]
            wrong = self.wrong_tables(wish)
            self.assertGreater(len(wrong), 70)
            for value in wrong:
                before = deepcopy(value) if value is not table else None
                for call in [lambda: behind(wish, value, letter), lambda: ahead(wish, letter, value),
                             lambda: across(wish, value, letter, good), lambda: across(wish, good, letter, value),
                             lambda: word_with(wish, value, 0)]:
                    self.assertRaises(NoTable, call)
                if before is not None and not isinstance(value, Exception):
                    self.assertEqual(value, before)

    def test_what_differs_a_little_may_be_another_table(self):
        wish = two()
        self.assertEqual(behind(wish, ("aXaX", "aYaY"), ""), ("aXaX", "aYaY"))
        self.assertRaises(NoTable, behind, wish, ("aYaY", "aXaX"), "")
        self.assertRaises(NoTable, behind, wish, ("aXaX", "aXaX", "aYaY"), "")
        self.assertRaises(NoTable, behind, wish, ["aXaX", "aYaY"], "")

    def test_no_word(self):
        for wish in [two(), whole()]:
            good = tuple(wish.pairs())
            for value in odd_values():
                if not is_word(value, wish.given()):
                    self.assertRaises(NoWord, behind, wish, good, value)
                    self.assertRaises(NoWord, ahead, wish, value, good)

    def test_no_letter(self):
        for wish in [two(), whole()]:
            good = tuple(wish.pairs())
            for value in odd_values() + ["ac", "c ", "cc"]:
                if not (isinstance(value, str) and len(value) == 1 and value in wish.given()):
                    self.assertRaises(NoLetter, across, wish, good, value, good)

    def test_two_wrong_at_once(self):
        wish = two()
        good = tuple(wish.pairs())
        for value in [None, [], "b", 0, {"a": []}, ("x",)]:
            self.assertRaises(NoTable, behind, wish, value, value)
            self.assertRaises(NoWord, ahead, wish, value, value)
            self.assertRaises(NoTable, across, wish, value, value, good)
            self.assertRaises(NoTable, across, wish, value, "a", value)
            self.assertRaises(NoLetter, across, wish, good, value, value)
            self.assertRaises(NoTable, word_with, wish, value, value)


class StartAndLongs(unittest.TestCase):

    def test_of_the_document(self):
        self.assertEqual(start(two()), (0, 2))

    def test_beside_the_sets_of_all_words(self):
        seen = set()
        for wish in small_wishes():
            sets = Sets(wish)
            self.assertEqual(start(wish), (sets.m, sets.p))
            seen.add((sets.m > 0, sets.p > 1))
            self.assertEqual(longs(wish), [strings for _, strings in tables(wish) if strings in sets.longs])
        self.assertEqual(seen, {(False, False), (False, True), (True, False), (True, True)})

    def test_sets_one_by_one(self):
        for wish in [two(), three(), whole(), Wish("a", "XYZ", ["aXaY", "aYaZ", "aZaX"]), Wish("a", "XY", ["aXaY"]),
                     chance_wish(82, "ab", "XY", 0.65), chance_wish(120, "ab", "XY", 0.25)]:
            m, p = start(wish)
            sets = [{table_of(wish, word) for word in all_words(wish, n, n)} for n in range(m + p + 1)]
            repeats = [(n, q) for n in range(m + p) for q in range(1, m + p + 1 - n) if sets[n] == sets[n + q]]
            self.assertEqual(min(repeats), (m, p))
            self.assertEqual(set(longs(wish)), set().union(*sets[m:]))

    def test_kinds_of_values(self):
        found = start(three())
        self.assertIsInstance(found, tuple)
        self.assertEqual([isinstance(part, int) for part in found], [True, True])
        self.assertIsInstance(longs(three()), list)

    def test_new_lists(self):
        wish = three()
        found = longs(wish)
        found.append(None)
        self.assertEqual(longs(wish), [tuple(all_pairs("a", "XYZ"))])


class WordWith(unittest.TestCase):

    def test_beside_a_search(self):
        for wish in [two(), three(), whole(), one_letter(), Wish("a", "XY", ["aXaY"]), Wish("zm", "QB", []),
                     chance_wish(82, "ab", "XY", 0.65), Wish("ba", "XY", ["bXaX", "bYaY", "aXbY", "aYbX", "bXbX"])]:
            m, p = start(wish)
            for _, strings in tables(wish):
                for least in range(4):
                    most = max(least, m) + p
                    some = (word for word in all_words(wish, least, most) if table_of(wish, word) == strings)
                    self.assertEqual(word_with(wish, strings, least), next(some, None), (least, strings))

    def test_each_least(self):
        for wish in small_wishes():
            if len(tables(wish)) > 60:
                continue
            sets = Sets(wish)
            for _, strings in tables(wish):
                last = max([n for n in range(sets.m) if strings in sets.sets[n]] + [-1])
                for least in list(range(0, 61, 7)) + [1, 59, 60]:
                    word = word_with(wish, strings, least)
                    if strings not in sets.longs and least > last:
                        self.assertIs(word, None)
                    else:
                        self.assertGreaterEqual(len(word), least)
                        self.assertEqual(table_of(wish, word), strings)

    def test_no_word_is_ahead_of_it(self):
        wish = chance_wish(120, "ab", "XY", 0.25)
        for _, strings in tables(wish):
            for least in range(6):
                word = word_with(wish, strings, least)
                for other in all_words(wish, least, 7 if word is None else len(word)):
                    if word is not None and word_key(wish, other) >= word_key(wish, word):
                        break
                    self.assertNotEqual(table_of(wish, other), strings)

    def test_one_given_letter(self):
        for least in range(61):
            even = least if least % 2 == 0 else least + 1
            self.assertEqual(word_with(two(), ("aXaY", "aYaX"), least), "a" * even)
            self.assertEqual(word_with(three(), tuple(three().pairs()), least), "" if least == 0 else None)

    def test_wrong_numbers(self):
        good = tuple(two().pairs())
        for value in odd_values() + [-1, 61]:
            if type(value) is not int or not 0 <= value <= 60:
                self.assertRaises(NoNumber, word_with, two(), good, value)

    def test_what_is_passed_stays_as_it_was(self):
        wish = whole()
        before = as_told(wish)
        for word in words("ac", 2):
            word_with(wish, table(wish, word), 3)
            across(wish, table(wish, word), "a", table(wish, word))
        self.assertEqual(as_told(wish), before)


if __name__ == "__main__":
    unittest.main()
