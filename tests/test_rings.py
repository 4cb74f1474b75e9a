"""[7] (and [2], [3], [4] for it): rings and their answers."""

import unittest
from copy import deepcopy
from itertools import product

from nearwish.errors import NoAnswer, NoIndex, NoNumber, NotRight, NoWord
from nearwish.rings import (answer_at, answer_index, answers_many, answers_modulo, first_answer, right,
                            wrong_places)
from nearwish.wishes import Wish

from kinds import all_pairs, answers, odd_values, some_wishes, three, two, words

SAMPLE = ["", "b", "aab", "A", "aX", " ", "a ", None, 0, True, ["a"], ("a", "a"), {"a": "X"}, [], two()]


def places_of(wish, word, answer):
    """The wrong places, found from the words of the document alone."""
    pairs = wish.pairs()
    many = len(word)
    return [k for k in range(many)
            if word[k] + answer[k] + word[(k + 1) % many] + answer[(k + 1) % many] not in pairs]


def is_ring(value, given):
    return isinstance(value, str) and value != "" and set(value) <= set(given)


def is_answer(value, word, said):
    return isinstance(value, str) and len(value) == len(word) and set(value) <= set(said)


def rings_to_try(wish):
    return words(wish.given(), 6 if len(wish.given()) == 1 else 3)


class Example(unittest.TestCase):

    def test_of_the_document(self):
        self.assertEqual(first_answer(three(), "aaaa"), "XYXY")
        self.assertEqual(answers_many(three(), "aaaa"), 18)
        self.assertIs(first_answer(three(), "a"), None)


class BesideAllAnswers(unittest.TestCase):
    """Each function beside all answers of a small ring, found one by one."""

    def test_right_and_wrong_places(self):
        for wish in some_wishes():
            for word in words(wish.given(), 3):
                for answer in answers(word, wish.said()):
                    places = places_of(wish, word, answer)
                    self.assertEqual(wrong_places(wish, word, answer), places)
                    self.assertIs(right(wish, word, answer), places == [])

    def test_listed_answers(self):
        for wish in some_wishes():
            for word in rings_to_try(wish):
                found = [answer for answer in answers(word, wish.said()) if places_of(wish, word, answer) == []]
                self.assertEqual(answers_many(wish, word), len(found))
                self.assertEqual(first_answer(wish, word), found[0] if found else None)
                if len(found) <= 100:
                    self.assertEqual([answer_at(wish, word, k) for k in range(len(found))], found)
                    self.assertEqual([answer_index(wish, word, answer) for answer in found], list(range(len(found))))
                for index in (len(found), -1):
                    with self.assertRaises(NoIndex):
                        answer_at(wish, word, index)

    def test_answers_modulo(self):
        for wish in some_wishes():
            for word in words(wish.given(), 3):
                for times in range(1, 4):
                    many = answers_many(wish, word * times)
                    for modulus in (2, 3, 10, 10 ** 9):
                        self.assertEqual(answers_modulo(wish, word, times, modulus), many % modulus)


class SmallRings(unittest.TestCase):

    def test_one_house_stands_beside_itself(self):
        wish = Wish("ab", "XYZ", ["aXaX", "aYaZ", "aZaY", "aZaZ", "bYaY", "aYbY"])
        self.assertIs(right(wish, "a", "X"), True)
        self.assertIs(right(wish, "a", "Y"), False)
        self.assertEqual(wrong_places(wish, "a", "X"), [])
        self.assertEqual(wrong_places(wish, "b", "Y"), [0])
        self.assertEqual(first_answer(wish, "a"), "X")
        self.assertEqual(answers_many(wish, "a"), 2)
        self.assertEqual(answer_at(wish, "a", 1), "Z")
        self.assertEqual(answer_index(wish, "a", "Z"), 1)
        self.assertEqual(answers_modulo(wish, "a", 1, 10), 2)
        self.assertIs(first_answer(wish, "b"), None)
        self.assertEqual(answers_many(wish, "b"), 0)
        self.assertEqual(answers_modulo(wish, "b", 1, 10), 0)

    def test_behind_the_last_house_is_house_0(self):
        wish = Wish("a", "XYZ", ["aXaY", "aYaZ"])
        self.assertEqual(wrong_places(wish, "aaa", "XYZ"), [2])
        self.assertEqual(wrong_places(wish, "aaa", "YZX"), [1])
        self.assertEqual(wrong_places(wish, "aaa", "ZXY"), [0])
        self.assertEqual(wrong_places(wish, "aaa", "ZZZ"), [0, 1, 2])
        self.assertEqual(wrong_places(wish, "aa", "XY"), [1])

    def test_the_order_of_two_cells_counts(self):
        wish = Wish("ab", "XY", ["aXbY", "bYaX"])
        self.assertIs(right(wish, "ab", "XY"), True)
        self.assertIs(right(wish, "ba", "YX"), True)
        self.assertIs(right(wish, "ab", "YX"), False)
        self.assertIs(right(Wish("ab", "XY", ["aXbY"]), "ab", "XY"), False)

    def test_rings_without_a_right_answer(self):
        for wish, word in [(two(), "a"), (two(), "aaa"), (two(), "a" * 59), (Wish("ab", "XYZ", []), "ab"),
                           (three(), "a"), (Wish("ab", "X", ["aXbX"]), "ba"), (Wish("a", "XY", ["aXaY"]), "aa")]:
            self.assertIs(first_answer(wish, word), None)
            self.assertEqual(answers_many(wish, word), 0)
            self.assertEqual(answers_modulo(wish, word, 1, 7), 0)
            with self.assertRaises(NoIndex):
                answer_at(wish, word, 0)
            for letter in wish.said():
                self.assertIs(right(wish, word, letter * len(word)), False)
                with self.assertRaises(NotRight):
                    answer_index(wish, word, letter * len(word))

    def test_letters_out_of_the_order_of_the_alphabet(self):
        wish = Wish("ba", "ZAM", all_pairs("ba", "ZAM"))
        self.assertEqual(first_answer(wish, "abab"), "ZZZZ")
        self.assertEqual([answer_at(wish, "ab", k) for k in range(9)],
                         ["ZZ", "ZA", "ZM", "AZ", "AA", "AM", "MZ", "MA", "MM"])
        self.assertEqual(answer_index(wish, "ab", "MZ"), 6)


class LongRings(unittest.TestCase):
    """Rings of 60 houses: too many answers to list them."""

    def test_three_letters_that_differ_from_the_next(self):
        many = 2 ** 60 + 2
        word = "a" * 60
        self.assertEqual(answers_many(three(), word), many)
        self.assertEqual(first_answer(three(), word), "XY" * 30)
        self.assertEqual(answer_at(three(), word, 0), "XY" * 30)
        self.assertEqual(answer_at(three(), word, many - 1), "ZY" * 30)
        self.assertEqual(answer_index(three(), word, "ZY" * 30), many - 1)
        self.assertEqual(answers_many(three(), "a" * 59), 2 ** 59 - 2)
        self.assertEqual(first_answer(three(), "a" * 59), "XY" * 29 + "Z")

    def test_back_and_forth(self):
        many = 2 ** 60 + 2
        word = "a" * 60
        for index in [0, 1, 2, many // 3, many // 3 - 1, many // 2, 10 ** 18, many - 2, many - 1]:
            answer = answer_at(three(), word, index)
            self.assertIs(right(three(), word, answer), True)
            self.assertEqual(answer_index(three(), word, answer), index)
        found = [answer_at(three(), word, 10 ** 17 + k) for k in range(10)]
        self.assertEqual(found, sorted(set(found)))

    def test_all_pairs_count_like_digits(self):
        said = "YWZX"
        wish = Wish("ba", said, all_pairs("ba", said))
        word = "abbaba" * 10
        self.assertEqual(answers_many(wish, word), 4 ** 60)
        for index in [0, 1, 4 ** 59, 4 ** 60 // 7, 4 ** 60 - 1]:
            answer = "".join(said[index // 4 ** k % 4] for k in reversed(range(60)))
            self.assertEqual(answer_at(wish, word, index), answer)
            self.assertEqual(answer_index(wish, word, answer), index)
            self.assertEqual(wrong_places(wish, word, answer), [])

    def test_indexes_that_are_none(self):
        word = "a" * 60
        for index in [2 ** 60 + 2, 2 ** 60 + 3, 10 ** 30, -1, -2 ** 60, True, False]:
            with self.assertRaises(NoIndex):
                answer_at(three(), word, index)

    def test_wrong_places_of_a_long_ring(self):
        answer = "XY" * 10 + "XX" + "YX" * 19
        self.assertEqual(wrong_places(two(), "a" * 60, answer), [20, 59])
        self.assertIs(right(two(), "a" * 60, "XY" * 30), True)
        self.assertIs(right(two(), "a" * 60, answer), False)

    def test_a_little_more_than_sixty_houses(self):
        self.assertEqual(answers_many(three(), "a" * 80), 2 ** 80 + 2)
        self.assertIs(right(two(), "a" * 80, "XY" * 40), True)


class Modulo(unittest.TestCase):

    def test_times_and_moduli_at_their_bounds(self):
        wish = Wish("ab", "WXYZ", all_pairs("ab", "WXYZ"))
        for times, modulus in product([1, 2, 3, 10 ** 30 - 1, 10 ** 30], [2, 3, 97, 10 ** 9 - 1, 10 ** 9]):
            self.assertEqual(answers_modulo(wish, "aba", times, modulus), pow(4, 3 * times, modulus))
            many = (pow(2, times * 3, modulus) + 2 * (-1) ** (times * 3 % 2)) % modulus
            self.assertEqual(answers_modulo(three(), "aaa", times, modulus), many)

    def test_a_long_word_many_times(self):
        many = (pow(2, 60 * 10 ** 30, 10 ** 9) + 2) % 10 ** 9
        self.assertEqual(answers_modulo(three(), "a" * 60, 10 ** 30, 10 ** 9), many)
        self.assertEqual(answers_modulo(two(), "a" * 59, 10 ** 30, 10), 2)
        self.assertEqual(answers_modulo(two(), "a" * 59, 10 ** 30 - 1, 10), 0)

    def test_numbers_that_are_none(self):
        for times in [0, -1, 10 ** 30 + 1, -10 ** 30, True, False]:
            with self.assertRaises(NoNumber):
                answers_modulo(three(), "aa", times, 10)
        for modulus in [1, 0, -1, 10 ** 9 + 1, -5, True, False]:
            with self.assertRaises(NoNumber):
                answers_modulo(three(), "aa", 2, modulus)


class WrongArguments(unittest.TestCase):

    def calls_with_word(self, wish, word):
        """Each function, called with this word and with all kinds of other arguments behind it."""
        for value in ["XY", "", None, 0, -1, [], two()]:
            yield lambda: right(wish, word, value)
            yield lambda: wrong_places(wish, word, value)
            yield lambda: answer_at(wish, word, value)
            yield lambda: answer_index(wish, word, value)
            for other in [5, 1, None, "a"]:
                yield lambda: answers_modulo(wish, word, value, other)
        yield lambda: first_answer(wish, word)
        yield lambda: answers_many(wish, word)

    def test_no_word_comes_first(self):
        for word in odd_values() + SAMPLE:
            if not is_ring(word, "a"):
                for call in self.calls_with_word(three(), word):
                    with self.assertRaises(NoWord):
                        call()
            if not is_ring(word, "bc"):
                for call in self.calls_with_word(Wish("cb", "X", []), word):
                    with self.assertRaises(NoWord):
                        call()

    def test_the_empty_word_is_no_ring(self):
        for call in self.calls_with_word(three(), ""):
            with self.assertRaises(NoWord):
                call()

    def test_no_answer(self):
        longer = ["XYX", "X", "XYXYX", "", "XW", "xy", "aa", "X ", "aX", "Xa", ["X", "Y"], ("X", "Y"), {"X": "Y"}]
        for answer in odd_values() + longer:
            if not is_answer(answer, "aa", "XYZ"):
                for function in (right, wrong_places, answer_index):
                    with self.assertRaises(NoAnswer):
                        function(three(), "aa", answer)

    def test_not_right_comes_last(self):
        for answer in ["XX", "YY", "ZZ"]:
            with self.assertRaises(NotRight):
                answer_index(three(), "aa", answer)
            with self.assertRaises(NoAnswer):
                answer_index(three(), "aa", answer + "X")
            with self.assertRaises(NoWord):
                answer_index(three(), "ab", answer)

    def test_no_index(self):
        for index in odd_values():
            if type(index) is int and 0 <= index < 6:
                continue
            with self.assertRaises(NoIndex):
                answer_at(three(), "aa", index)
        with self.assertRaises(NoIndex):
            answer_at(three(), "aa", 6)

    def test_no_number(self):
        for value in odd_values():
            if not (type(value) is int and 1 <= value <= 10 ** 30):
                for modulus in (7, 0, None, value):
                    with self.assertRaises(NoNumber):
                        answers_modulo(three(), "aa", value, modulus)
            if not (type(value) is int and 2 <= value <= 10 ** 9):
                with self.assertRaises(NoNumber):
                    answers_modulo(three(), "aa", 1, value)


class NoChange(unittest.TestCase):

    def test_arguments_stay_as_they_were(self):
        functions = [(right, 1), (wrong_places, 1), (first_answer, 0), (answers_many, 0), (answer_at, 1),
                     (answer_index, 1), (answers_modulo, 2)]
        for value in odd_values():
            held = deepcopy(value) if not isinstance(value, Exception) else None
            for function, more in functions:
                for word in (value, "aa"):
                    wish = three()
                    try:
                        function(wish, word, *[value] * more)
                    except (NoWord, NoAnswer, NoIndex, NoNumber, NotRight):
                        pass
                    self.assertEqual(wish, three())
            if held is not None:
                self.assertEqual(value, held)

    def test_lists_are_new(self):
        wish = two()
        places = wrong_places(wish, "aaa", "XXX")
        places.clear()
        self.assertEqual(wrong_places(wish, "aaa", "XXX"), [0, 1, 2])
        self.assertIsNot(wrong_places(wish, "aa", "XY"), wrong_places(wish, "aa", "XY"))

    def test_equal_calls_give_equal_results(self):
        for wish in some_wishes():
            again = Wish(wish.given(), wish.said(), list(reversed(wish.pairs())))
            for word in words(wish.given(), 3):
                self.assertEqual(first_answer(wish, word), first_answer(again, word))
                self.assertEqual(first_answer(wish, word), first_answer(wish, word))

    def test_kinds_of_what_is_returned(self):
        self.assertIs(type(wrong_places(three(), "aa", "XX")), list)
        self.assertIs(type(first_answer(three(), "aa")), str)
        self.assertIs(type(answer_at(three(), "aa", 1)), str)
        for number in (answers_many(three(), "aa"), answer_index(three(), "aa", "XZ"),
                       answers_modulo(three(), "aa", 1, 2)):
            self.assertIs(type(number), int)


if __name__ == "__main__":
    unittest.main()
