"""What the document promises over the whole program: [1] to [6], [25], its examples, and equal wishes."""

import unittest
from copy import deepcopy
from itertools import combinations
from pathlib import Path
from random import Random

from nearwish import errors
from nearwish.books import book_fault, greatest, near, tree_fault
from nearwish.called import Called
from nearwish.errors import NearError, NoTable
from nearwish.lengths import lengths, rings_modulo, unanswered
from nearwish.levels import least_said, level
from nearwish.live import LiveRing
from nearwish.looks import look_fault, look_table
from nearwish.named import NamedProgram, halvings
from nearwish.rings import (answer_at, answer_index, answers_many, answers_modulo, first_answer, right, wrong_places)
from nearwish.rising import break_rising, rising, rising_fault, rising_program
from nearwish.runs import (beginning, ending, nameless, nameless_book_fault, nameless_tree_fault, run_cells, shorts)
from nearwish.strangers import break_called, break_named, break_nameless
from nearwish.tables import across, ahead, behind, longs, start, table, tables, word_with
from nearwish.texts import read_wish, wish_text
from nearwish.together import both, one_of, seen, struck, turned
from nearwish.unnamed import NamelessProgram
from nearwish.wishes import Wish, wide_wish

from kinds import (all_pairs, as_told, chance_wish, crowned, just_200_tables, many_longs, many_shorts, nearly_nameless,
                   one_letter, over_200_tables, three, two, whole)

ROOT = Path(__file__).resolve().parent.parent


class OfTheDocument(unittest.TestCase):
    """The examples of the document."""

    def test_rings(self):
        self.assertEqual(first_answer(three(), "aaaa"), "XYXY")
        self.assertEqual(answers_many(three(), "aaaa"), 18)
        self.assertIsNone(first_answer(three(), "a"))

    def test_tables_and_lengths(self):
        self.assertEqual(table(two(), "a"), ("aXaX", "aYaY"))
        self.assertEqual(start(two()), (0, 2))
        self.assertEqual(unanswered(two(), 1), "a")
        self.assertEqual(lengths(two(), "a"), ([], [False, True]))
        self.assertEqual(rings_modulo(two(), 4, 7), 1)
        with self.assertRaises(errors.NoWord):
            table(two(), "b")

    def test_levels_and_programs(self):
        self.assertEqual([level(wish) for wish in (two(), whole(), three(), one_letter())],
                         ["none", "whole", "marks", "nameless"])
        self.assertEqual([halvings(6), halvings(7), halvings(100)], [0, 1, 3])

    def test_rising_and_together(self):
        self.assertEqual([rising(three(), look) for look in range(3)], [3, 8, 20])
        self.assertEqual(wish_text(both(two(), two())), "given a\nsaid ABCD\npairs aAaD aBaC aCaB aDaA")
        self.assertEqual(struck(two(), "X").pairs(), [])


class Errors(unittest.TestCase):

    def test_direct_subclasses(self):
        self.assertTrue(issubclass(NearError, ValueError))
        own = [value for value in vars(errors).values() if isinstance(value, type)]
        self.assertEqual(len(own), 23)
        for one in own:
            if one is not NearError:
                self.assertEqual(one.__bases__, (NearError,))
        for one, other in combinations([one for one in own if one is not NearError], 2):
            self.assertFalse(issubclass(one, other) or issubclass(other, one))

    def test_readme_tells_of_all_modules(self):
        text = (ROOT / "README.md").read_text(encoding="utf-8")
        for path in sorted((ROOT / "nearwish").glob("*.py")):
            if path.stem != "__init__":
                self.assertIn(path.stem, text)
        for name in ["errors", "wishes", "rings", "tables", "lengths", "books", "runs", "levels", "named", "unnamed",
                     "called", "live", "strangers", "looks", "rising", "together", "texts"]:
            self.assertIn("nearwish." + name, text)


def mixed(value):
    return Random(repr(value)).randrange(1000)


def calls(wish):
    """All that can be asked of a wish, by names: functions without arguments."""
    given, said = wish.given(), wish.said()
    rings = [given, given[0] * 5, given[-1] + given * 3]
    long_ring = (given + given[0]) * 700
    found = {"as told": lambda: as_told(wish), "starts": lambda: start(wish), "tables": lambda: tables(wish),
             "longs": lambda: longs(wish), "near": lambda: near(wish), "nameless": lambda: nameless(wish),
             "level": lambda: level(wish), "shorts": lambda: shorts(wish), "text": lambda: wish_text(wish),
             "unanswered": lambda: unanswered(wish, 3), "rings": lambda: rings_modulo(wish, 10 ** 12, 997),
             "no book": lambda: book_fault(wish, {}), "no tree": lambda: tree_fault(wish, None),
             "no nameless book": lambda: nameless_book_fault(wish, ({}, {})),
             "no nameless tree": lambda: nameless_tree_fault(wish, ("try",)),
             "own tree": lambda: tree_fault(wish, near(wish)[1]),
             "own nameless tree": lambda: nameless_tree_fault(wish, nameless(wish)[1]),
             "own book": lambda: book_fault(wish, near(wish)[1]),
             "own nameless book": lambda: nameless_book_fault(wish, nameless(wish)[1]),
             "turned": lambda: as_told(turned(wish)), "seen": lambda: as_told(seen(wish, "zy", given[0] + given[-1])),
             "struck": lambda: as_told(struck(wish, said[1:])), "both": lambda: as_told(both(wish, wish)),
             "one of": lambda: as_told(one_of(wish, turned(wish))), "read": lambda: as_told(read_wish(wish_text(wish))),
             "nameless program": lambda: (NamelessProgram(wish).look(), NamelessProgram(wish).says(long_ring[:300])),
             "named program": lambda: named(wish, long_ring[:300]), "live": lambda: lived(wish, long_ring),
             "called": lambda: called(wish, long_ring), "breaks": lambda: broken(wish)}
    for word in rings:
        found["ring " + word] = lambda word=word: of_ring(wish, word)
    for kind in ("whole", "marks", "nameless"):
        found["least " + kind] = lambda kind=kind: least_said(wish, kind)
    for look in range(3):
        found["look " + str(look)] = lambda look=look: look_table(wish, look)
        found["look fault " + str(look)] = lambda look=look: look_fault(wish, look, {given[0]: said[0]})
        found["rising " + str(look)] = lambda look=look: rising(wish, look)
        found["rising program " + str(look)] = lambda look=look: rising_program(wish, look, 5)
        found["rising fault " + str(look)] = lambda look=look: rising_fault(wish, look, 2, {(0,): said[0]})
        found["rising broken " + str(look)] = lambda look=look: break_rising(wish, look, lambda names: said[-1])
    return found


def of_ring(wish, word):
    many = answers_many(wish, word)
    found = [many, first_answer(wish, word), lengths(wish, word), answers_modulo(wish, word, 10 ** 20, 10 ** 8),
             table(wish, word), wrong_places(wish, word, wish.said()[0] * len(word))]
    if many:
        answer = answer_at(wish, word, many // 2)
        found += [answer, answer_index(wish, word, answer), right(wish, word, answer)]
    rows = tables(wish)
    one, other = rows[0][1], rows[-1][1]
    found += [behind(wish, one, word), ahead(wish, word, other), across(wish, one, word[0], other),
              word_with(wish, other, 3), greatest(wish, longs(wish)[-1])]
    for short in shorts(wish)[:3]:
        found += [run_cells(wish, short), ending(wish, short), beginning(wish, short)]
    return found


def named(wish, word):
    program = NamedProgram(wish, 10 ** 20)
    return [program.look(), program.says(word, [k * k * 7 + 3 for k in range(len(word))])]


def called(wish, word):
    ring = Called(wish, word)
    return [ring.reach()] + [ring.call(mixed(k)) for k in range(60)] + [ring.said(), ring.given()]


def lived(wish, word):
    ring = LiveRing(wish, word)
    given = wish.given()
    found = [ring.reach()]
    for k in range(25):
        found += [ring.put(mixed(k), given[0]), ring.change(mixed(-k), given[-1]), ring.strike(mixed(3 * k))]
    return found + [ring.said(), ring.given()]


def broken(wish):
    said = wish.said()
    found = []
    for breaker in (break_named, break_nameless, break_called):
        try:
            found.append(breaker(wish, 1, lambda *parts: said[mixed(parts) % len(said)]))
        except errors.IsNear:
            found.append("near")
    return found


def asked(call):
    """What the call returns, or the error that it raises."""
    try:
        return call()
    except NearError as error:
        return type(error), vars(error)


def spoiled(value):
    """Changes all lists and dicts that are in the value."""
    if isinstance(value, (list, tuple)):
        for part in value:
            spoiled(part)
    if isinstance(value, dict):
        for part in list(value.values()):
            spoiled(part)
        value.clear()
        value["spoiled"] = True
    if isinstance(value, list):
        value.append("spoiled")


class EqualWishes(unittest.TestCase):
    """Equal wishes are told alike by every function, however they were made and in whatever order they were asked."""

    def wishes(self):
        return [two(), three(), whole(), one_letter(), Wish("a", "X", []), nearly_nameless([]),
                nearly_nameless(["aWbW", "bWaW"]), Wish("ba", "YX", all_pairs("ba", "YX")), many_longs(), many_shorts(),
                just_200_tables(), over_200_tables()[0], chance_wish(549, "ab", "XYZW", 0.3), both(two(), three()),
                chance_wish(169, "abc", "XY", 0.7), chance_wish(467, "ab", "XYZ", 0.5), crowned("a"),
                one_of(whole(), whole())]

    def made_again(self, chance, wish):
        pairs = wish.pairs()
        chance.shuffle(pairs)
        return [wide_wish(wish.given(), wish.said(), pairs), read_wish(wish_text(wish)), turned(turned(wish)),
                struck(wish, "")]

    def test_in_whatever_order(self):
        chance = Random(1)
        for wish in self.wishes():
            first = calls(wish)
            kept = {}
            for name in first:
                found = asked(first[name])
                kept[name] = deepcopy(found)
                spoiled(found)
            for other in [wish] + self.made_again(chance, wish):
                self.assertTrue(other == wish and wish == other)
                again = calls(other)
                names = list(again)
                chance.shuffle(names)
                for name in names:
                    found = asked(again[name])
                    self.assertEqual(found, kept[name], name)
                    spoiled(found)
                self.assertEqual(as_told(other), kept["as told"])

    def test_constructed_again(self):
        for wish in [two(), three(), whole(), nearly_nameless([])]:
            again = Wish(wish.given(), wish.said(), wish.pairs()[::-1])
            for name, call in calls(again).items():
                self.assertEqual(asked(call), asked(calls(wish)[name]), name)

    def test_unequal_ones(self):
        wish = three()
        others = [turned(Wish("a", "XYZ", ["aXaY"])), seen(wish, "b", "a"), struck(wish, "X"), both(wish, one_letter()),
                  wish_text(wish), wish.pairs(), None]
        for other in others:
            self.assertFalse(wish == other)
            self.assertFalse(other == wish)
        self.assertEqual(one_of(wish, wish), one_of(three(), three()))


class Large(unittest.TestCase):
    """No call raises RecursionError, and the numbers of letters are bounded only where a wish is constructed."""

    def test_a_ring_of_5000_houses(self):
        for wish in (three(), nearly_nameless([]), both(three(), three())):
            word = (wish.given() * 5000)[:5000]
            self.assertTrue(right(wish, word, NamedProgram(wish, 5000).says(word, list(range(5000)))))
            self.assertTrue(right(wish, word, LiveRing(wish, word).said()))
            ring = Called(wish, word)
            for place in range(0, 5000, 3):
                ring.call(place)
            self.assertTrue(set(ring.said()) <= set(wish.said() + "."))

    def test_26_said_letters(self):
        letters = "ABCDEFGHIJKLMNOPQRSTUVWXYZ"
        wish = wide_wish("ab", letters, [x + s + y + t for x in "ab" for y in "ab" for s in letters for t in letters
                                         if s != t])
        self.assertEqual(level(wish), "marks")
        self.assertTrue(right(wish, "abab", first_answer(wish, "abab")))
        self.assertEqual(answers_many(wish, "ab"), 26 * 25)
        self.assertEqual(answer_index(wish, "ab", answer_at(wish, "ab", 600)), 600)
        self.assertIsNone(look_table(wish, 2))
        self.assertEqual(read_wish(wish_text(wish)), wish)
        self.assertEqual(struck(wish, letters[3:]).said(), "ABC")
        self.assertEqual(level(struck(wish, letters[2:])), "none")

    def test_many_given_letters(self):
        wish = read_wish("given abcdef\nsaid XY\npairs " + " ".join(
            x + s + y + t for x in "abcdef" for s in "XY" for y in "abcdef" for t in "XY" if s == t or x == "a"))
        self.assertEqual(first_answer(wish, "fedcba"), "XXXXXX")
        self.assertEqual(level(wish), "nameless")
        self.assertEqual(look_table(wish, 0), dict.fromkeys("abcdef", "X"))
        self.assertTrue(right(wish, "abcdef" * 10, NamelessProgram(wish).says("abcdef" * 10)))
        self.assertRaises(NoTable, behind, wish, (), "a")


if __name__ == "__main__":
    unittest.main()
