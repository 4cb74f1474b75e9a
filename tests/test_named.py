"""[15] (and [2], [3], [4] for it): programs for houses with names."""

import unittest
from random import Random

from nearwish.errors import NoBound, NoNames, NotNear, NoNumber, NoWord, TooMany
from nearwish.named import NamedProgram, halvings
from nearwish.rings import right
from nearwish.runs import shorts
from nearwish.wishes import Wish

from kinds import (all_pairs, as_told, crowned, either, just_200_tables, k_of, many_longs, many_shorts,
                   near_wishes, nearly_nameless, odd_values, one_letter, over_200_tables, ring, round_dances, three,
                   two, whole)

MOST = 10 ** 60


def told_halvings(number):
    """By the words of [15]."""
    return 0 if number <= 6 else 1 + told_halvings(2 * len(bin(number - 1)[2:]))


def name_lists(chance, many, bound):
    """Lists of so many names below the bound, of several kinds."""
    found = [list(range(many)), list(range(many))[::-1], list(range(bound - many, bound)),
             list(range(bound - many, bound))[::-1]]
    far = bound // many
    found += [[k * far for k in range(many)], [bound - 1 - k * far for k in range(many)]]
    by_chance = []
    while len(by_chance) < many:
        name = chance.randrange(bound)
        if name not in by_chance[-1:]:
            by_chance.append(name)
    if len(set(by_chance)) == many:
        found.append(by_chance)
    digits = (bound - 1).bit_length() - 1
    if 2 * digits >= many:
        # Next to each other, names that differ in one binary digit alone.
        grey = [(k // 2 ^ k // 4) for k in range(2 * many)]
        found.append([name for k, name in enumerate(grey) if name not in grey[:k]][:many])
        steps = [0]
        for digit in range(digits):
            steps.append(steps[-1] | 1 << digit)
        found.append((steps + [steps[-1] ^ 1 << digit for digit in range(digits - 1)])[:many])
    return [names for names in found if len(set(names)) == many and max(names) < bound]


class Halvings(unittest.TestCase):

    def test_told_ones(self):
        self.assertEqual([halvings(6), halvings(7), halvings(100)], [0, 1, 3])
        self.assertEqual([halvings(number) for number in range(1, 9)], [0, 0, 0, 0, 0, 0, 1, 1])
        self.assertEqual(halvings(1), 0)
        self.assertEqual(halvings(MOST), 5)

    def test_by_the_words_of_the_document(self):
        for number in list(range(1, 600)) + [2 ** k + d for k in range(4, 199) for d in (-1, 0, 1)] + [MOST, MOST - 1]:
            self.assertEqual(halvings(number), told_halvings(number))

    def test_wrong_numbers(self):
        for value in odd_values() + [0, MOST + 1, True, -1]:
            if type(value) is not int or not 1 <= value <= MOST:
                self.assertRaises(NoNumber, halvings, value)


class Constructor(unittest.TestCase):

    def test_no_bound(self):
        for wish in [three(), two(), crowned("a"), many_longs()]:
            for value in odd_values() + [0, MOST + 1, True, -1]:
                if type(value) is not int or not 1 <= value <= MOST:
                    self.assertRaises(NoBound, NamedProgram, wish, value)

    def test_not_near(self):
        for wish in [two(), whole(), Wish("a", "X", []), Wish("a", "XYZ", ["aXaY", "aYaZ", "aZaX"])]:
            for bound in (1, 100, MOST):
                self.assertRaises(NotNear, NamedProgram, wish, bound)

    def test_too_many(self):
        dances = either(crowned("a"), round_dances("a"))
        for wish, most in [(over_200_tables()[0], 200), (many_longs(), 20), (just_200_tables(), 20), (dances, 20),
                           (crowned("a"), 100)]:
            with self.assertRaises(TooMany) as caught:
                NamedProgram(wish, 10)
            self.assertEqual(caught.exception.most, most)
        for value in [0, None, "a"]:
            with self.assertRaises(TooMany) as caught:
                NamedProgram(over_200_tables()[0], value)
            self.assertEqual(caught.exception.most, 200)

    def test_many_short_words_are_let(self):
        wish = Wish("ab", "XYZW", all_pairs("ab", "W") + many_shorts().pairs())
        self.assertRaises(TooMany, shorts, wish)
        self.assertGreaterEqual(NamedProgram(wish, 10).look(), 0)


class Look(unittest.TestCase):

    def test_within_its_bound(self):
        for wish in near_wishes():
            for bound in [1, 2, 6, 7, 8, 9, 32, 33, 100, 10 ** 9, 2 ** 100, MOST]:
                look = NamedProgram(wish, bound).look()
                self.assertIs(type(look), int)
                self.assertGreaterEqual(look, 0)
                self.assertLessEqual(look, 60 * k_of(wish) ** 2 * (halvings(bound) + 6))


class Says(unittest.TestCase):

    def test_small_rings(self):
        chance = Random(1)
        for wish in near_wishes():
            least = k_of(wish)
            for houses in [least, least + 1, least + 2, 2 * least, 3 * least, 60, 61]:
                for bound in [houses, houses + 1, 4 * houses, 10 ** 6, MOST]:
                    program = NamedProgram(wish, bound)
                    for names in name_lists(chance, houses, bound):
                        word = ring(chance, wish.given(), houses)
                        self.assertTrue(right(wish, word, program.says(word, names)))

    def test_large_rings(self):
        chance = Random(2)
        for wish in near_wishes():
            for bound in [5000, 2 ** 20, MOST]:
                program = NamedProgram(wish, bound)
                lists = name_lists(chance, 5000, bound)
                self.assertGreaterEqual(len(lists), 2)
                for names in lists[:4]:
                    word = ring(chance, wish.given(), 5000)
                    self.assertTrue(right(wish, word, program.says(word, names)))

    def test_all_orders_of_a_few_names(self):
        chance = Random(3)
        wish = three()
        program = NamedProgram(wish, 7)
        for _ in range(200):
            names = chance.sample(range(7), chance.randrange(2, 8))
            word = "a" * len(names)
            self.assertTrue(right(wish, word, program.says(word, names)))

    def test_one_digit(self):
        for wish in [three(), nearly_nameless([])]:
            for digit in range(0, 190, 7):
                program = NamedProgram(wish, 2 ** 192)
                names = [k // 2 * 4 + (k % 2 << digit) if digit > 8 else k for k in range(60)]
                names = [name ^ 1 << 191 for name in names]
                self.assertEqual(len(set(names)), 60)
                word = ("ab" * 60)[:60] if len(wish.given()) > 1 else "a" * 60
                self.assertTrue(right(wish, word, program.says(word, names)))

    def test_one_house(self):
        self.assertEqual(NamedProgram(one_letter(), 1).says("a", [0]), "X")
        wish = Wish("ba", "YX", all_pairs("ba", "YX"))
        self.assertEqual(k_of(wish), 1)
        self.assertTrue(right(wish, "b", NamedProgram(wish, MOST).says("b", [MOST - 1])))

    def test_the_same_for_the_same_call(self):
        chance = Random(4)
        for wish in near_wishes():
            word = ring(chance, wish.given(), 100)
            names = chance.sample(range(10 ** 9), 100)
            program = NamedProgram(wish, MOST)
            answer = program.says(word, names)
            program.says(word, names[::-1])
            self.assertEqual(program.says(word, names), answer)
            self.assertEqual(NamedProgram(wish, MOST).says(word, names), answer)

    def test_what_is_passed_stays_as_it_was(self):
        wish = three()
        before = as_told(wish)
        names = [5, 3, 8, 1]
        program = NamedProgram(wish, 9)
        answer = program.says("aaaa", names)
        self.assertEqual(names, [5, 3, 8, 1])
        self.assertEqual(as_told(wish), before)
        names[0] = 4
        self.assertEqual(program.says("aaaa", [5, 3, 8, 1]), answer)


class Locally(unittest.TestCase):
    """Houses that have the same about them say the same."""

    def check(self, chance, wish, bound, rounds):
        program = NamedProgram(wish, bound)
        look = program.look()
        for _ in range(rounds):
            houses = chance.choice([2 * look + 1, 2 * look + 2, 3 * look + 5])
            word = ring(chance, wish.given(), houses)
            names = self.some_names(chance, bound, houses)
            said = program.says(word, names)
            for _ in range(3):
                k = chance.randrange(houses)
                near = [(k + d) % houses for d in range(-look, look + 1)]
                far = ring(chance, wish.given(), chance.choice([1, 2, 40, 300]))
                other = "".join(word[j] for j in near) + far
                there = [names[j] for j in near]
                used = set(there)
                free = [name for name in self.some_names(chance, bound, len(other) + len(there)) if name not in used]
                there += free[:len(other) - len(there)]
                turn = chance.randrange(len(other))
                answer = program.says(other[turn:] + other[:turn], there[turn:] + there[:turn])
                self.assertEqual(answer[(look - turn) % len(other)], said[k])

    def some_names(self, chance, bound, many):
        names = chance.sample(range(min(bound, 10 ** 15)), many)
        kind = chance.randrange(3)
        return sorted(names) if kind == 0 else sorted(names)[::-1] if kind == 1 else names

    def test_houses_that_see_the_same(self):
        chance = Random(5)
        for wish in near_wishes():
            for bound in [10 ** 5, MOST]:
                self.check(chance, wish, bound, 4)

    def test_a_house_in_a_ring_that_is_turned(self):
        chance = Random(6)
        for wish in near_wishes():
            program = NamedProgram(wish, 10 ** 9)
            word = ring(chance, wish.given(), 400)
            names = chance.sample(range(10 ** 9), 400)
            said = program.says(word, names)
            for turn in (1, 57, 399):
                again = program.says(word[turn:] + word[:turn], names[turn:] + names[:turn])
                self.assertTrue(right(wish, word[turn:] + word[:turn], again))
                if 400 > 2 * program.look():
                    self.assertEqual(again, said[turn:] + said[:turn])


class WrongCalls(unittest.TestCase):

    def test_no_word(self):
        for wish in [three(), nearly_nameless([]), one_letter()]:
            program = NamedProgram(wish, 1000)
            least = k_of(wish)
            wrong = odd_values() + ["a" * many for many in range(least)] + ["d" * least, "a" * least + "A"]
            for value in wrong:
                if isinstance(value, str) and len(value) >= least and set(value) <= set(wish.given()):
                    continue
                for names in [list(range(60)), None, []]:
                    self.assertRaises(NoWord, program.says, value, names)

    def test_no_names(self):
        for bound in [10, 1000, MOST]:
            program = NamedProgram(three(), bound)
            wrong = odd_values() + [[1, 2, 3, 3], [1, 2, 3, -1], [1, 2, 3, bound], [1, 2, 3], [1, 2, 3, 4, 5], [],
                                    [1, 2, 3, True], [False, 1, 2, 3], (1, 2, 3, 4), [1, 2, 3, None], [1, 2, 3, "4"],
                                    [1, 2, 3, [4]], [[1, 2, 3, 4]], {1: 0, 2: 0, 3: 0, 4: 0}, [1, 1, 1, 1],
                                    [bound] * 4, [0, 0, 1, 2], [1, 2, 3, {}], [1, 2, 3, (4,)], "1234"]
            for value in wrong:
                self.assertRaises(NoNames, program.says, "aaaa", value)
            self.assertTrue(right(three(), "aaaa", program.says("aaaa", [0, bound - 1, 1, 2])))

    def test_more_houses_than_names(self):
        program = NamedProgram(three(), 3)
        self.assertTrue(right(three(), "aaa", program.says("aaa", [2, 0, 1])))
        self.assertRaises(NoNames, program.says, "aaaa", [0, 1, 2, 3])
        self.assertRaises(NoNames, program.says, "aaaa", [0, 1, 2])


if __name__ == "__main__":
    unittest.main()
