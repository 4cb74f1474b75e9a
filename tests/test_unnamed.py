"""[16] (and [2], [3], [4] for it): programs for houses without names."""

import unittest
from random import Random

from nearwish.errors import NotNear, NoWord, TooMany
from nearwish.levels import level
from nearwish.rings import right
from nearwish.tables import start, tables
from nearwish.unnamed import NamelessProgram
from nearwish.wishes import Wish

from kinds import (all_pairs, as_told, chance_wish, crowned, either, hard_to_end, just_200_tables, many_longs,
                   many_shorts, nearly_nameless, odd_values, one_letter, over_200_tables, round_dances, three, two,
                   whole, words)


def with_books():
    return [one_letter(), Wish("ba", "YX", all_pairs("ba", "YX")), Wish("a", "XYZ", ["aXaX", "aYaZ"]),
            Wish("ab", "XY", ["aXaX", "aXbX", "bXaX", "bXbX"]), chance_wish(59, "a", "XYZW", 0.5),
            chance_wish(169, "abc", "XY", 0.7), chance_wish(71, "ab", "XYZW", 0.3), chance_wish(10, "ab", "XYZW", 0.5),
            chance_wish(144, "ab", "XYZ", 0.4), chance_wish(158, "abc", "XYZ", 0.65),
            chance_wish(159, "abc", "XY", 0.55), chance_wish(467, "ab", "XYZ", 0.5), chance_wish(589, "ab", "XYZ", 0.4),
            nearly_nameless(["aWbW", "bWaW"])]


def by_chance(chance, given, houses):
    return "".join(chance.choice(given) for _ in range(houses))


def ring(chance, given, houses):
    """A word in which short words come again and again, and others by chance."""
    word = ""
    while len(word) < houses:
        part = by_chance(chance, given, chance.randrange(1, 9))
        word += part * chance.choice([1, 2, 5, 20, 90, 300])
        word += by_chance(chance, given, chance.choice([0, 0, 1, 10, 100, 300]))
    return word[:houses]


def square_free(houses):
    """A word of three letters in which no word stands beside itself."""
    word = "a"
    while len(word) < houses:
        word = "".join({"a": "abc", "b": "ac", "c": "b"}[letter] for letter in word)
    return word[:houses]


class Constructor(unittest.TestCase):

    def test_not_near(self):
        for wish in [two(), whole(), three(), Wish("a", "X", []), nearly_nameless([]), hard_to_end()]:
            self.assertNotEqual(level(wish), "nameless")
            self.assertRaises(NotNear, NamelessProgram, wish)

    def test_too_many(self):
        for wish, most in [(over_200_tables()[0], 200), (many_longs(), 20), (just_200_tables(), 20),
                           (either(crowned("a"), round_dances("a")), 20), (crowned("a"), 100),
                           (either(crowned("ab"), many_shorts()), 100), (many_shorts(), 24)]:
            with self.assertRaises(TooMany) as caught:
                NamelessProgram(wish)
            self.assertEqual(caught.exception.most, most)


class Look(unittest.TestCase):

    def test_within_its_bound(self):
        for wish in with_books():
            look = NamelessProgram(wish).look()
            k = start(wish)[0] + 1
            self.assertIs(type(look), int)
            self.assertGreaterEqual(look, 0)
            self.assertLessEqual(look, 1000 * k ** 2 + 20 * k * len(tables(wish)))


class Says(unittest.TestCase):

    def test_all_small_rings(self):
        for wish in with_books():
            program = NamelessProgram(wish)
            for word in words(wish.given(), 5):
                self.assertTrue(right(wish, word, program.says(word)))

    def test_a_word_again_and_again(self):
        chance = Random(1)
        for wish in with_books():
            program = NamelessProgram(wish)
            for word in words(wish.given(), 4) + [by_chance(chance, wish.given(), many) for many in (7, 20, 90, 400)]:
                once = program.says(word)
                for times in (2, 3, 11, 60 // len(word) + 1):
                    self.assertEqual(program.says(word * times), once * times)

    def test_where_the_ring_begins(self):
        chance = Random(2)
        for wish in with_books():
            program = NamelessProgram(wish)
            for word in words(wish.given(), 4)[-6:] + [ring(chance, wish.given(), many) for many in (9, 60, 700, 2000)]:
                said = program.says(word)
                for turn in {1, len(word) // 2, len(word) - 1, chance.randrange(len(word))}:
                    self.assertEqual(program.says(word[turn:] + word[:turn]), said[turn:] + said[:turn])

    def test_large_rings(self):
        chance = Random(3)
        for wish in with_books():
            program = NamelessProgram(wish)
            given = wish.given()
            rings = [by_chance(chance, given, 5000), ring(chance, given, 5000), ring(chance, given, 5000),
                     given[0] * 4999 + given[-1], (given * 5000)[:4999], by_chance(chance, given, 5) * 1000]
            rings += [given[0] * 2500 + given[-1] * 2500, (given[0] + given[-1]) * 1200 + given[0] * 2600]
            if given == "abc":
                rings.append(square_free(5000))
            for word in rings:
                self.assertTrue(right(wish, word, program.says(word)))

    def test_stretches_of_each_length(self):
        for wish in with_books():
            program = NamelessProgram(wish)
            first, last = wish.given()[0], wish.given()[-1]
            for many in list(range(1, 130, 3)) + [200, 300, 499]:
                for word in [first * many + last, (first + last) * many + last, first * many + last * many,
                             (first + first + last) * many + (last + first) * 7 + last]:
                    self.assertTrue(right(wish, word, program.says(word)))

    def test_stretches_and_a_few_letters(self):
        for wish in with_books()[6:8] + with_books()[-3:]:
            program = NamelessProgram(wish)
            first, last = wish.given()[0], wish.given()[-1]
            for part in (first, first + last, first + first + last, first + last + last):
                for tail in ["", part[0]] + words(first + last, 2):
                    for many in range(1, 130 // len(part)):
                        word = part * many + tail
                        self.assertTrue(right(wish, word, program.says(word)))

    def test_the_same_for_the_same_call(self):
        chance = Random(4)
        for wish in with_books():
            before = as_told(wish)
            word = ring(chance, wish.given(), 300)
            program = NamelessProgram(wish)
            said = program.says(word)
            program.says(word[::-1])
            self.assertEqual(program.says(word), said)
            self.assertEqual(NamelessProgram(wish).says(word), said)
            self.assertEqual(as_told(wish), before)

    def test_told_ones(self):
        self.assertEqual(NamelessProgram(one_letter()).says("aaaa"), "XXXX")
        self.assertEqual(NamelessProgram(Wish("a", "XYZ", ["aYaX", "aZaZ", "aXaY"])).says("aaa"), "ZZZ")


class Locally(unittest.TestCase):
    """Houses that see the same letters say the same, in rings of each size."""

    def test_houses_that_see_the_same(self):
        chance = Random(5)
        for wish in with_books():
            program = NamelessProgram(wish)
            look = program.look()
            for _ in range(12):
                houses = chance.choice([1, 3, 7, 30, look + 1, 2 * look + 1, 3 * look + 20])
                word = ring(chance, wish.given(), houses)
                said = program.says(word)
                for _ in range(3):
                    k = chance.randrange(houses)
                    near = "".join(word[(k + d) % houses] for d in range(-look, look + 1))
                    other = near + ring(chance, wish.given(), chance.choice([1, 2, 50, 400]))
                    turn = chance.randrange(len(other))
                    answer = program.says(other[turn:] + other[:turn])
                    self.assertEqual(answer[(look - turn) % len(other)], said[k])

    def test_within_one_ring(self):
        chance = Random(6)
        for wish in with_books()[3:]:
            program = NamelessProgram(wish)
            look = program.look()
            part = ring(chance, wish.given(), 2 * look + 10)
            word = part + ring(chance, wish.given(), 100) + part + by_chance(chance, wish.given(), 77)
            said = program.says(word)
            for k in range(look, look + 10):
                self.assertEqual(said[k], said[len(part) + 100 + k])


class WrongCalls(unittest.TestCase):

    def test_no_word(self):
        for wish in [one_letter(), Wish("ba", "YX", all_pairs("ba", "YX")), chance_wish(71, "ab", "XYZW", 0.3)]:
            program = NamelessProgram(wish)
            for value in odd_values() + ["", "d", "aad", "A", "a" * 60 + " "]:
                if not (isinstance(value, str) and value and set(value) <= set(wish.given())):
                    self.assertRaises(NoWord, program.says, value)


if __name__ == "__main__":
    unittest.main()
