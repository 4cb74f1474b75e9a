"""[17] (and [2], [3], [4] for it): houses that are called in any order."""

import unittest
from random import Random

from nearwish.called import Called
from nearwish.errors import NoPlace, NotNear, NoWord, TooMany
from nearwish.rings import right
from nearwish.runs import shorts
from nearwish.wishes import Wish

from kinds import (all_pairs, as_told, crowned, either, just_200_tables, k_of, many_longs, many_shorts, near_wishes,
                   nearly_nameless, odd_values, one_letter, over_200_tables, ring, round_dances, three, two, whole)


def far_wishes():
    """Wishes without a book, of the levels "none" and "whole"."""
    return [two(), whole(), Wish("a", "X", []), Wish("a", "XYZ", ["aXaY", "aYaZ", "aZaX"])]


def away(size, one, other):
    """How far apart two houses stand, the shorter way round."""
    return min((one - other) % size, (other - one) % size)


def orders(chance, size):
    """Orders of calls, some houses called again; each has all houses."""
    found = [list(range(size)), list(range(size))[::-1]]
    for step in (2, 3, 5, 7, 11, size // 2 - 1, size // 3 + 1):
        found.append([k * step % size for k in range(size)] + list(range(size)))
    for _ in range(3):
        drawn = list(range(size)) + [chance.randrange(size) for _ in range(size // 3)]
        chance.shuffle(drawn)
        found.append(drawn)
    # From both sides towards each other, and away from each other.
    towards = [place for k in range(size // 2 + 1) for place in (k, size - 1 - k)]
    return found + [towards, towards[::-1]]


class Constructor(unittest.TestCase):

    def most_of(self, wish, word):
        with self.assertRaises(TooMany) as caught:
            Called(wish, word)
        return caught.exception.most

    def test_no_word(self):
        for wish in [three(), nearly_nameless([]), one_letter(), two(), whole(), many_longs(), crowned("a")]:
            least = 8 * k_of(wish)
            first = wish.given()[0]
            wrong = odd_values() + ["", first * (least - 1), first * (k_of(wish)), first * (least - 1) + "d",
                                    first * (least - 1) + "X", first * least + " ", [first] * least, (first,) * least]
            for value in wrong:
                self.assertRaises(NoWord, Called, wish, value)

    def test_just_so_many_houses(self):
        for wish in near_wishes():
            word = (wish.given() * 8 * k_of(wish))[:8 * k_of(wish)]
            called = Called(wish, word)
            self.assertEqual(called.said(), "." * len(word))
            for place in range(len(word)):
                called.call(place)
            self.assertTrue(right(wish, word, called.said()))

    def test_not_near(self):
        for wish in far_wishes():
            for houses in (8 * k_of(wish), 8 * k_of(wish) + 1, 60):
                self.assertRaises(NotNear, Called, wish, wish.given()[0] * max(houses, 8 * k_of(wish)))

    def test_too_many(self):
        dances = either(crowned("a"), round_dances("a"))
        for wish, most in [(many_longs(), 20), (just_200_tables(), 20), (dances, 20), (crowned("a"), 100)]:
            self.assertEqual(self.most_of(wish, wish.given()[0] * 8 * k_of(wish)), most)
        for wish in over_200_tables():
            for value in odd_values() + ["a" * 5000, "ab" * 900]:
                self.assertEqual(self.most_of(wish, value), 200)

    def test_many_short_words_are_let(self):
        wish = Wish("ab", "XYZW", all_pairs("ab", "W") + many_shorts().pairs())
        self.assertRaises(TooMany, shorts, wish)
        self.assertEqual(Called(wish, "a" * 8 * k_of(wish)).said(), "." * 8 * k_of(wish))


class Reach(unittest.TestCase):

    def test_within_its_bound(self):
        for wish in near_wishes():
            for houses in (8 * k_of(wish), 300):
                reach = Called(wish, wish.given()[0] * houses).reach()
                self.assertIs(type(reach), int)
                self.assertGreaterEqual(reach, 0)
                self.assertLessEqual(reach, 12 * k_of(wish))


class Calls(unittest.TestCase):

    def check(self, wish, word, order):
        size = len(word)
        called = Called(wish, word)
        pairs = set(wish.pairs())
        said = ["."] * size
        for place in order:
            told = called.call(place)
            self.assertIs(type(told), dict)
            if said[place] != ".":
                self.assertEqual(told, {})
                continue
            self.assertIn(place, told)
            for house, letter in told.items():
                self.assertIs(type(house), int)
                self.assertIn(house, range(size))
                self.assertEqual(said[house], ".")
                self.assertIn(letter, list(wish.said()))
                self.assertLessEqual(away(size, house, place), called.reach())
                said[house] = letter
            self.assertEqual(called.said(), "".join(said))
            for house in told:
                for one, other in ((house, (house + 1) % size), ((house - 1) % size, house)):
                    if "." not in (said[one], said[other]):
                        self.assertIn(word[one] + said[one] + word[other] + said[other], pairs)
        self.assertEqual(called.given(), word)
        self.assertTrue(right(wish, word, called.said()))

    def test_rings_of_all_kinds(self):
        chance = Random(1)
        for wish in near_wishes():
            least = 8 * k_of(wish)
            for houses in (least, least + 1, least + 2, least + k_of(wish), 2 * least - 1, 3 * least + 5):
                for order in orders(chance, houses):
                    self.check(wish, ring(chance, wish.given(), houses), order)

    def test_a_word_again_and_again(self):
        chance = Random(2)
        for wish in near_wishes():
            for part in ("a", "b", "ab", "aab", "abb"):
                if set(part) <= set(wish.given()):
                    for order in orders(chance, 90):
                        self.check(wish, (part * 90)[:90], order)

    def test_all_orders_of_the_first_calls(self):
        chance = Random(3)
        for wish in [three(), nearly_nameless([]), one_letter(), near_wishes()[-1]]:
            houses = 8 * k_of(wish) + 3
            for first in range(0, houses, 3):
                for second in range(houses):
                    order = [first, second] + chance.sample(range(houses), 3)
                    self.check(wish, ring(chance, wish.given(), houses), order + list(range(houses)))

    def test_large_rings(self):
        chance = Random(4)
        for wish in [three(), hardest(), one_letter(), near_wishes()[4]]:
            word = ring(chance, wish.given(), 5000)
            for order in [list(range(5000)), list(range(5000))[::-1], chance.sample(range(5000), 5000),
                          [k * 1237 % 5000 for k in range(5000)]]:
                called = Called(wish, word)
                for place in order:
                    called.call(place)
                self.assertTrue(right(wish, word, called.said()))

    def test_no_place(self):
        for wish in near_wishes():
            word = ring(Random(5), wish.given(), 8 * k_of(wish) + 4)
            size = len(word)
            called = Called(wish, word)
            for step in (0, 1, 2):
                before = called.said()
                wrong = [-1, size, size + 1, -size, "0", "a", str(size - 1), [0], (0,), {0: 0}, 10 ** 30]
                for value in wrong + odd_values():
                    if type(value) is not int or not 0 <= value < size:
                        self.assertRaises(NoPlace, called.call, value)
                self.assertEqual(called.said(), before)
                self.assertEqual(called.given(), word)
                self.assertIn([0, size - 1, 0][step], called.call([0, size - 1, 0][step]) or [0])

    def test_the_first_and_the_last_house_are_let(self):
        word = "a" * 40
        for place in (0, 39):
            called = Called(three(), word)
            self.assertIn(place, called.call(place))
            self.assertNotEqual(called.said()[place], ".")

    def test_what_was_returned_is_new(self):
        wish = three()
        before = as_told(wish)
        called, other = Called(wish, "a" * 30), Called(wish, "a" * 30)
        for place in (3, 17, 4, 29, 10, 11, 12):
            told = called.call(place)
            self.assertEqual(told, other.call(place))
            self.assertEqual(called.call(place), {})
            told.clear()
            told[5] = "?"
            called.call(place)[place] = "?"
            self.assertEqual(called.said(), other.said())
        self.assertEqual(as_told(wish), before)

    def test_several_rings_of_one_wish(self):
        wish = nearly_nameless([])
        chance = Random(6)
        word = ring(chance, "ab", 60)
        one, other, alone = Called(wish, word), Called(wish, word[::-1]), Called(wish, word)
        for place in chance.sample(range(60), 60):
            one.call(place)
            other.call(chance.randrange(60))
        self.assertEqual(alone.said(), "." * 60)
        for place in range(60):
            other.call(place)
        self.assertTrue(right(wish, word, one.said()))
        self.assertTrue(right(wish, word[::-1], other.said()))


def hardest():
    """The wish with the largest K."""
    return max(near_wishes(), key=k_of)


class Locally(unittest.TestCase):
    """What a call returns is determined by what is near it."""

    def near(self, called, place, reach):
        size = len(called.given())
        houses = [(place + far) % size for far in range(-reach, reach + 1)]
        return [(called.given()[k], called.said()[k]) for k in houses]

    def check(self, chance, wish):
        reach = Called(wish, wish.given()[0] * 8 * k_of(wish)).reach()
        part = ring(chance, wish.given(), 2 * reach + chance.choice([1, 20, 4 * reach, 8 * reach]))
        one_tail, other_tail = [ring(chance, wish.given(), chance.choice([0, 1, reach, 50])) for _ in range(2)]
        turn = chance.randrange(len(part) + len(other_tail))
        other_word = part + other_tail
        one = Called(wish, part + one_tail)
        other = Called(wish, other_word[turn:] + other_word[:turn])
        compared = 0
        for _ in range(len(part)):
            k = chance.choice([chance.randrange(len(part)), chance.randrange(reach, len(part) - reach)])
            there = (k - turn) % len(other_word)
            alike = self.near(one, k, reach) == self.near(other, there, reach)
            told, told_there = one.call(k), other.call(there)
            if alike:
                moved = {away_to(len(one.given()), k, house): letter for house, letter in told.items()}
                moved_there = {away_to(len(other_word), there, house): letter for house, letter in told_there.items()}
                self.assertEqual(moved, moved_there)
                compared += told != {}
            # Far away, other houses are called in the two rings.
            if one_tail and chance.random() < 0.5:
                one.call(len(part) + chance.randrange(len(one_tail)))
            if other_tail and chance.random() < 0.5:
                other.call((len(part) + chance.randrange(len(other_tail)) - turn) % len(other_word))
        return compared

    def test_two_rings(self):
        chance = Random(7)
        for wish in near_wishes():
            self.assertGreater(sum(self.check(chance, wish) for _ in range(12)), 50)

    def test_a_ring_that_is_turned(self):
        chance = Random(8)
        for wish in near_wishes():
            word = ring(chance, wish.given(), 2 * 12 * k_of(wish) + 1)
            size = len(word)
            for turn in (1, size // 2, size - 1):
                one, other = Called(wish, word), Called(wish, word[turn:] + word[:turn])
                for place in chance.sample(range(size), size):
                    told = other.call((place - turn) % size)
                    self.assertEqual({(house + turn) % size: letter for house, letter in told.items()}, one.call(place))


def away_to(size, place, house):
    """How many houses behind the place the house stands, the shorter way round."""
    far = (house - place) % size
    return far if far <= size // 2 else far - size


if __name__ == "__main__":
    unittest.main()
