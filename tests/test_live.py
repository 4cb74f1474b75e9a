"""[18] (and [2], [3], [4] for it): rings that change."""

import unittest
from random import Random

from nearwish.errors import NoHouse, NoLetter, NoPlace, NotNear, NoWord, TooMany
from nearwish.live import LiveRing
from nearwish.rings import right
from nearwish.wishes import Wish

from kinds import (all_pairs, as_told, crowned, either, just_200_tables, k_of, many_longs, many_shorts, near_wishes,
                   nearly_nameless, odd_values, one_letter, over_200_tables, ring, round_dances, three, two, whole)


def away(size, one, other):
    """How far apart two houses stand, the shorter way round."""
    return min((one - other) % size, (other - one) % size)


def shortest(wish):
    return 8 * k_of(wish)


class Constructor(unittest.TestCase):

    def most_of(self, wish, word):
        with self.assertRaises(TooMany) as caught:
            LiveRing(wish, word)
        return caught.exception.most

    def test_no_word(self):
        for wish in [three(), nearly_nameless([]), one_letter(), two(), whole(), many_longs(), crowned("a")]:
            least = shortest(wish)
            first = wish.given()[0]
            for value in odd_values() + ["", first * (least - 1), first * (least - 1) + "d", first * (least - 1) + "X",
                                         first * least + " ", [first] * least, (first,) * least]:
                self.assertRaises(NoWord, LiveRing, wish, value)

    def test_not_near(self):
        for wish in [two(), whole(), Wish("a", "X", []), Wish("a", "XYZ", ["aXaY", "aYaZ", "aZaX"])]:
            for houses in (shortest(wish), shortest(wish) + 1):
                self.assertRaises(NotNear, LiveRing, wish, wish.given()[0] * houses)

    def test_too_many(self):
        dances = either(crowned("a"), round_dances("a"))
        for wish, most in [(many_longs(), 20), (just_200_tables(), 20), (dances, 20), (crowned("a"), 100)]:
            self.assertEqual(self.most_of(wish, wish.given()[0] * shortest(wish)), most)
        for value in odd_values() + ["a" * 5000]:
            self.assertEqual(self.most_of(over_200_tables()[0], value), 200)

    def test_many_short_words_are_let(self):
        wish = Wish("ab", "XYZW", all_pairs("ab", "W") + many_shorts().pairs())
        word = "ab" * 4 * k_of(wish)
        self.assertTrue(right(wish, word, LiveRing(wish, word).said()))

    def test_at_the_beginning(self):
        chance = Random(1)
        for wish in near_wishes():
            for houses in list(range(shortest(wish), shortest(wish) + 12)) + [500, 5000]:
                word = ring(chance, wish.given(), houses)
                live = LiveRing(wish, word)
                self.assertEqual(live.given(), word)
                self.assertTrue(right(wish, word, live.said()))
                self.assertEqual(LiveRing(wish, word).said(), live.said())

    def test_reach(self):
        for wish in near_wishes():
            for houses in (shortest(wish), 400):
                reach = LiveRing(wish, wish.given()[0] * houses).reach()
                self.assertIs(type(reach), int)
                self.assertGreaterEqual(reach, 0)
                self.assertLessEqual(reach, 30 * k_of(wish))


class Watched:
    """A ring with what is due of it."""

    def __init__(self, test, wish, word):
        self.test = test
        self.wish = wish
        self.live = LiveRing(wish, word)
        self.given = word
        self.least = shortest(wish)

    def deed(self, kind, place, letter):
        """Does the deed, and looks at all that is told of it; what it returned."""
        before = list(self.live.said())
        row = list(self.given)
        if kind == "put":
            told = self.live.put(place, letter)
            row.insert(place, letter)
            before.insert(place, None)
        elif kind == "change":
            told = self.live.change(place, letter)
            row[place] = letter
        elif len(row) == self.least:
            self.test.assertRaises(NoHouse, self.live.strike, place)
            told = {}
        else:
            told = self.live.strike(place)
            del row[place], before[place]
        self.given = "".join(row)
        self.look_at(told, before, place)
        return told

    def look_at(self, told, before, place):
        size = len(self.given)
        said = self.live.said()
        self.test.assertEqual(self.live.given(), self.given)
        self.test.assertTrue(right(self.wish, self.given, said))
        self.test.assertIs(type(told), dict)
        self.test.assertEqual(told, {k: said[k] for k in range(size) if said[k] != before[k]})
        for house in told:
            self.test.assertLessEqual(away(size, house, place % size), self.live.reach())

    def drawn(self, chance, kinds):
        """A drawn deed."""
        kind = chance.choice(kinds)
        many = len(self.given) + (1 if kind == "put" else 0)
        place = chance.choice([0, many - 1, many // 2, chance.randrange(many), chance.randrange(many)])
        letter = chance.choice(self.wish.given())
        if kind == "change" and chance.random() < 0.2:
            letter = self.given[place]
        return self.deed(kind, place, letter)


class Deeds(unittest.TestCase):

    def test_drawn_deeds(self):
        chance = Random(2)
        for wish in near_wishes():
            for houses in (shortest(wish), shortest(wish) + 1, 2 * shortest(wish) + 3):
                watched = Watched(self, wish, ring(chance, wish.given(), houses))
                for kinds in (["put", "change", "strike"], ["strike", "strike", "change"], ["put", "put", "change"],
                              ["put", "strike", "strike"], ["change"]):
                    for _ in range(60):
                        watched.drawn(chance, kinds)

    def test_at_both_ends(self):
        chance = Random(3)
        for wish in near_wishes():
            watched = Watched(self, wish, ring(chance, wish.given(), shortest(wish) + 2))
            for _ in range(4 * k_of(wish)):
                for kind, first in [("put", True), ("change", True), ("strike", True), ("put", False),
                                    ("change", False), ("put", True), ("strike", False), ("put", False)]:
                    last = len(watched.given) - (0 if kind == "put" else 1)
                    place = 0 if first else last
                    letter = chance.choice(wish.given())
                    told = watched.deed(kind, place, letter)
                    if kind == "put":
                        self.assertIn(place, told)
                        self.assertEqual(watched.live.given()[place], letter)

    def test_a_letter_that_the_house_has(self):
        chance = Random(4)
        for wish in near_wishes():
            watched = Watched(self, wish, ring(chance, wish.given(), shortest(wish) + 7))
            for place in range(len(watched.given)):
                watched.deed("change", place, watched.given[place])

    def test_each_house_changed_and_struck(self):
        chance = Random(5)
        for wish in near_wishes():
            size = shortest(wish) + 4
            word = ring(chance, wish.given(), size)
            for place in range(size):
                for letter in wish.given():
                    Watched(self, wish, word).deed("change", place, letter)
                Watched(self, wish, word).deed("strike", place, None)
            for place in range(size + 1):
                Watched(self, wish, word).deed("put", place, wish.given()[-1])

    def test_much_at_one_place(self):
        chance = Random(6)
        for wish in near_wishes():
            for begin in (0, shortest(wish) // 2, shortest(wish)):
                watched = Watched(self, wish, ring(chance, wish.given(), shortest(wish)))
                for _ in range(12 * k_of(wish)):
                    watched.deed("put", begin, chance.choice(wish.given()))
                while len(watched.given) > shortest(wish):
                    watched.deed("strike", min(begin, len(watched.given) - 1), None)
                for place in (0, begin // 2, len(watched.given) - 1):
                    watched.deed("strike", place, None)
                    self.assertEqual(len(watched.given), shortest(wish))
                watched.deed("change", 0, chance.choice(wish.given()))
                watched.deed("put", len(watched.given), chance.choice(wish.given()))
                watched.deed("strike", 0, None)
                self.assertRaises(NoHouse, watched.live.strike, 0)

    def test_large_rings(self):
        chance = Random(7)
        for wish in [three(), nearly_nameless([]), near_wishes()[4]]:
            watched = Watched(self, wish, ring(chance, wish.given(), 5000))
            for _ in range(60):
                watched.drawn(chance, ["put", "change", "strike"])

    def test_the_same_history(self):
        chance = Random(8)
        for wish in near_wishes():
            word = ring(chance, wish.given(), shortest(wish) + 5)
            one, other, third = LiveRing(wish, word), LiveRing(wish, word), LiveRing(wish, word[::-1])
            for _ in range(50):
                kind = chance.choice(["put", "change", "strike"])
                if kind == "strike" and len(one.given()) == shortest(wish):
                    continue
                place = chance.randrange(len(one.given()))
                letter = chance.choice(wish.given())
                parts = (place,) if kind == "strike" else (place, letter)
                told = getattr(one, kind)(*parts)
                third.put(chance.randrange(len(third.given())), letter)
                self.assertEqual(told, getattr(other, kind)(*parts))
                told.clear()
                told[0] = "?"
                self.assertEqual(one.said(), other.said())
                self.assertEqual(one.given(), other.given())
            self.assertTrue(right(wish, third.given(), third.said()))

    def test_what_is_passed_stays_as_it_was(self):
        wish = three()
        before = as_told(wish)
        live = LiveRing(wish, "a" * 30)
        live.put(3, "a")
        live.strike(9)
        live.change(4, "a")
        self.assertEqual(as_told(wish), before)


class WrongDeeds(unittest.TestCase):

    def setUp(self):
        self.wish = nearly_nameless([])
        self.word = ring(Random(9), "ab", shortest(self.wish) + 3)
        self.live = LiveRing(self.wish, self.word)
        self.said = self.live.said()

    def tearDown(self):
        # A deed that is refused changes nothing.
        self.assertEqual(self.live.given(), self.word)
        self.assertEqual(self.live.said(), self.said)
        self.assertEqual(LiveRing(self.wish, self.word).put(1, "a"), self.live.put(1, "a"))

    def places(self, most):
        """What is no integer from 0 to `most`."""
        wrong = odd_values() + [-1, most + 1, most + 2, -most, True, False, None, str(most), [0], (0,), {0: "a"}]
        return [value for value in wrong if type(value) is not int or not 0 <= value <= most]

    def letters(self):
        """What is no given letter."""
        wrong = odd_values() + ["", "c", "A", "X", "ab", "aa", " ", ["a"], ("a",), {"a": "a"}, True, 0, None]
        return [value for value in wrong if value not in ("a", "b")]

    def test_no_place(self):
        size = len(self.word)
        for value in self.places(size):
            for letter in ["a", "c", None]:
                self.assertRaises(NoPlace, self.live.put, value, letter)
        for value in self.places(size - 1):
            for letter in ["a", "c", None]:
                self.assertRaises(NoPlace, self.live.change, value, letter)
            self.assertRaises(NoPlace, self.live.strike, value)

    def test_no_letter(self):
        size = len(self.word)
        for value in self.letters():
            for place in (0, 5, size - 1):
                self.assertRaises(NoLetter, self.live.put, place, value)
                self.assertRaises(NoLetter, self.live.change, place, value)
            self.assertRaises(NoLetter, self.live.put, size, value)
            self.assertRaises(NoPlace, self.live.change, size, value)

    def test_no_house(self):
        for wish in near_wishes():
            word = ring(Random(10), wish.given(), shortest(wish))
            live = LiveRing(wish, word)
            said = live.said()
            for place in range(len(word)):
                self.assertRaises(NoHouse, live.strike, place)
            for value in (-1, len(word), True, None, "0"):
                self.assertRaises(NoPlace, live.strike, value)
            self.assertEqual((live.given(), live.said()), (word, said))
            live.put(0, word[0])
            live.strike(len(word))
            self.assertRaises(NoHouse, live.strike, 0)
            live.change(3, word[3])
            self.assertTrue(right(wish, live.given(), live.said()))


if __name__ == "__main__":
    unittest.main()
