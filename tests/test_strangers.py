"""[19] (and [2], [3], [4] for it): programs of strangers."""

import unittest
from itertools import combinations
from random import Random

from nearwish.called import Called
from nearwish.errors import IsNear, NoLook, NoSaid, TooMany
from nearwish.levels import level
from nearwish.named import NamedProgram
from nearwish.strangers import break_called, break_named, break_nameless
from nearwish.unnamed import NamelessProgram
from nearwish.wishes import Wish, wide_wish

from kinds import (all_pairs, as_told, chance_wish, crowned, either, hard_to_end, just_200_tables, k_of, many_longs,
                   many_shorts, nearly_nameless, odd_values, one_letter, over_200_tables, round_dances, three, turned,
                   two, whole)


def bookless():
    """Wishes of the levels "none" and "whole"."""
    found = [two(), whole(), Wish("a", "X", []), Wish("ba", "XY", ["aXaY"]), Wish("a", "XYZ", ["aXaY", "aYaZ", "aZaX"]),
             both_twos()]
    found += [chance_wish(549, "ab", "XYZW", 0.3), chance_wish(1009, "ab", "XYZW", 0.4), chance_wish(638, "ab", "XYZW", 0.5),
              chance_wish(102, "ab", "XY", 0.6), chance_wish(152, "ab", "XY", 0.7), chance_wish(36, "ab", "XYZ", 0.6),
              chance_wish(612, "abc", "XYZ", 0.7), chance_wish(1025, "ab", "XYZ", 0.3), chance_wish(3, "abc", "XY", 0.4),
              chance_wish(11, "ab", "XYZ", 0.3)]
    return found


def both_twos():
    """A wish with more than four said letters: two rounds of two and of four letters."""
    after = dict(zip("ABCDEF", "BADEFC"))
    return wide_wish("a", "ABCDEF", ["a" + s + "a" + after[s] for s in after])


def markers():
    """Wishes of the level "marks"."""
    return [three(), nearly_nameless([]), nearly_nameless(["aXaW", "bWaX"]), hard_to_end(), turned(hard_to_end()),
            chance_wish(351, "ab", "XYZW", 0.4), chance_wish(679, "ab", "XYZW", 0.6), chance_wish(860, "ab", "XYZW", 0.6),
            Wish("a", "XYZ", ["aXaY", "aYaZ", "aZaX", "aYaX"])]


def mixed(value, seed):
    """A number that hangs on all of the value, the same in each run."""
    found = seed
    for sign in repr(value):
        found = (found * 1103515245 + ord(sign)) % 2147483647
    return found // 7


def ways():
    """How programs pick a letter: by what is seen in letters and in something more, a list, a string or None."""
    return [
        lambda letters, more: 0,
        lambda letters, more: -1,
        lambda letters, more: sum(ord(x) for x in letters) + (sum(more) if isinstance(more, list) else 0),
        lambda letters, more: sum(x > more[len(more) // 2] for x in more) if more else letters.count(letters[0]),
        lambda letters, more: more[-1] if isinstance(more, list) else mixed(more, 1),
        lambda letters, more: ord(letters[len(letters) // 2]),
        lambda letters, more: mixed(letters[0] + letters[-1], 2),
        lambda letters, more: mixed(letters, 3),
        lambda letters, more: mixed((letters, more), 4),
        lambda letters, more: mixed((letters, more), 5),
        lambda letters, more: (max(more) if more else 0) if isinstance(more, list) else mixed(more, 6),
    ]


def among(said, kept, seed):
    """A program that picks one of these said letters."""
    return lambda letters, more: said.index(kept[mixed((letters, more), seed) % len(kept)])


class Stranger:
    """A program that picks a said letter, and looks at what it is called with."""

    def __init__(self, test, wish, look, way):
        self.test = test
        self.wish = wish
        self.look = look
        self.way = way

    def letter(self, letters, more):
        self.test.assertIs(type(letters), str)
        self.test.assertEqual(len(letters), 2 * self.look + 1)
        self.test.assertLessEqual(set(letters), set(self.wish.given()))
        said = self.wish.said()
        return said[self.way(letters, more) % len(said)]

    def named(self, letters, names):
        self.test.assertIs(type(names), list)
        self.test.assertEqual(len(names), len(letters))
        self.test.assertEqual(len(set(names)), len(names))
        self.test.assertTrue(all(type(name) is int and name >= 0 for name in names))
        found = self.letter(letters, list(names))
        # It may change what it is called with.
        names.clear()
        return found

    def nameless(self, letters):
        return self.letter(letters, None)

    def called(self, letters, said):
        self.test.assertIs(type(said), str)
        self.test.assertEqual(len(said), len(letters))
        self.test.assertLessEqual(set(said), set(self.wish.said() + "."))
        self.test.assertEqual(said[self.look], ".")
        return self.letter(letters, said)


def about(row, place, look):
    return [row[k % len(row)] for k in range(place - look, place + look + 1)]


class Judge(unittest.TestCase):
    """What each of the three returns, by the words of [19]."""

    def wrong_at(self, wish, word, said, place):
        self.assertIs(type(place), int)
        self.assertIn(place, range(len(word)))
        after = (place + 1) % len(word)
        self.assertNotIn(word[place] + said[place] + word[after] + said[after], wish.pairs())

    def is_ring(self, wish, look, word):
        self.assertIs(type(word), str)
        self.assertGreaterEqual(len(word), 2 * look + 1)
        self.assertLessEqual(set(word), set(wish.given()))

    def judge_named(self, wish, look, tell):
        found = break_named(wish, look, tell)
        self.assertIs(type(found), tuple)
        word, names, place = found
        self.is_ring(wish, look, word)
        self.assertIs(type(names), list)
        self.assertEqual(len(names), len(word))
        self.assertEqual(len(set(names)), len(names))
        self.assertTrue(all(type(name) is int and name >= 0 for name in names))
        said = [tell("".join(about(word, k, look)), about(names, k, look)) for k in range(len(word))]
        self.wrong_at(wish, word, said, place)
        return found

    def judge_nameless(self, wish, look, tell):
        found = break_nameless(wish, look, tell)
        self.assertIs(type(found), tuple)
        word, place = found
        self.is_ring(wish, look, word)
        said = [tell("".join(about(word, k, look))) for k in range(len(word))]
        self.wrong_at(wish, word, said, place)
        return found

    def judge_called(self, wish, look, tell):
        found = break_called(wish, look, tell)
        self.assertIs(type(found), tuple)
        word, calls, place = found
        self.is_ring(wish, look, word)
        self.assertIs(type(calls), list)
        self.assertTrue(all(type(k) is int for k in calls))
        self.assertEqual(sorted(calls), list(range(len(word))))
        said = ["."] * len(word)
        for k in calls:
            said[k] = tell("".join(about(word, k, look)), "".join(about(said, k, look)))
        self.wrong_at(wish, word, said, place)
        return found


class AllPrograms(Judge):

    def test_levels_of_the_wishes(self):
        self.assertEqual({level(wish) for wish in bookless()}, {"none", "whole"})
        self.assertEqual({level(wish) for wish in markers()}, {"marks"})

    def test_all_programs(self):
        for wish in bookless():
            for look in range(4):
                for way in ways():
                    stranger = Stranger(self, wish, look, way)
                    self.judge_named(wish, look, stranger.named)
                    self.judge_nameless(wish, look, stranger.nameless)
                    self.judge_called(wish, look, stranger.called)

    def test_without_names_where_names_would_do(self):
        for wish in markers():
            for look in range(4):
                for way in ways():
                    self.judge_nameless(wish, look, Stranger(self, wish, look, way).nameless)

    def test_drawn_wishes(self):
        chance = Random(1)
        seen = set()
        for seed in range(250):
            wish = chance_wish(seed, chance.choice(["a", "ab", "ba", "abc"]), chance.choice(["X", "YX", "XYZ", "WXYZ"]),
                               chance.choice([0.1, 0.2, 0.3, 0.5, 0.7]))
            try:
                found = level(wish)
            except TooMany:
                continue
            for look in range(4):
                stranger = Stranger(self, wish, look, lambda letters, more: mixed((letters, more), seed))
                if found in ("none", "whole"):
                    self.judge_named(wish, look, stranger.named)
                    self.judge_called(wish, look, stranger.called)
                if found != "nameless":
                    self.judge_nameless(wish, look, stranger.nameless)
                    seen.add((found, look))
        self.assertGreaterEqual(len(seen), 8)

    def test_many_programs_for_a_few_wishes(self):
        for wish in [whole(), chance_wish(549, "ab", "XYZW", 0.3), hard_to_end(), turned(hard_to_end()),
                     nearly_nameless([])]:
            for seed in range(150):
                stranger = Stranger(self, wish, seed % 4, lambda letters, more: mixed((letters, more), seed))
                self.judge_nameless(wish, seed % 4, stranger.nameless)
                if level(wish) == "whole":
                    self.judge_named(wish, seed % 4, stranger.named)
                    self.judge_called(wish, seed % 4, stranger.called)

    def test_programs_that_keep_to_some_letters(self):
        for wish in markers() + bookless():
            said = wish.said()
            for kept in {"".join(row) for many in (1, 2, 3) for row in combinations(said, min(many, len(said)))}:
                for seed in range(4):
                    way = among(said, kept, seed)
                    for look in (0, 1, 3):
                        stranger = Stranger(self, wish, look, way)
                        self.judge_nameless(wish, look, stranger.nameless)
                        if wish in bookless():
                            self.judge_named(wish, look, stranger.named)
                            self.judge_called(wish, look, stranger.called)

    def test_many_short_words_are_let_with_names(self):
        wish = many_shorts()
        stranger = Stranger(self, wish, 1, ways()[-2])
        self.judge_named(wish, 1, stranger.named)
        self.judge_called(wish, 1, stranger.called)

    def test_a_program_by_what_was_said(self):
        for wish in [two(), whole(), both_twos()]:
            for look in (1, 2, 3):
                self.judge_called(wish, look, lambda letters, said: self.beside(wish, letters, said))

    def beside(self, wish, letters, said):
        """The first letter that goes with what the two houses next to this one have said."""
        look = len(letters) // 2
        for s in wish.said():
            own = letters[look] + s
            ahead = said[look - 1] == "." or letters[look - 1] + said[look - 1] + own in wish.pairs()
            behind = said[look + 1] == "." or own + letters[look + 1] + said[look + 1] in wish.pairs()
            if ahead and behind:
                return s
        return wish.said()[0]


class RightForAnother(Judge):
    """Programs that are right for a wish with some pairs more, on the letters that are seen, taken for a ring."""

    def wider(self):
        """Tuples of a wish without a book, and one with some pairs more that has a nameless book."""
        free = [(wish, wide_wish(wish.given(), wish.said(), all_pairs(wish.given(), wish.said())))
                for wish in bookless()]
        self_paired = [(wish, wide_wish(wish.given(), wish.said(), wish.pairs() + ["aYaY"]))
                       for wish in (two(), Wish("a", "XYZ", ["aXaY", "aYaZ", "aZaX"]))]
        return free + self_paired

    def test_with_names(self):
        for wish, more in self.wider() + [(Wish("a", "XYZ", ["aXaY", "aYaZ", "aZaX"]), three())]:
            program = NamedProgram(more, 10 ** 9)
            for look in range(4):
                if 2 * look + 1 >= k_of(more):
                    self.judge_named(wish, look, lambda letters, names: program.says(letters, names)[len(letters) // 2])

    def test_without_names(self):
        pairs = self.wider() + [(three(), wide_wish("a", "XYZ", three().pairs() + ["aZaZ"])),
                                (nearly_nameless([]), nearly_nameless(["aWbW", "bWaW"]))]
        for wish, more in pairs:
            program = NamelessProgram(more)
            for look in range(4):
                self.judge_nameless(wish, look, lambda letters: program.says(letters)[len(letters) // 2])

    def test_called(self):
        for wish, more in self.wider() + [(Wish("a", "XYZ", ["aXaY", "aYaZ", "aZaX"]), three())]:
            for look in range(4):
                self.judge_called(wish, look, lambda letters, said: self.in_turn(more, letters, said))

    def in_turn(self, wish, letters, said):
        """What the house in the middle says if those that have said something, and then this one, are called."""
        word = letters * 8 * k_of(wish)
        called = Called(wish, word)
        for place, letter in enumerate(said):
            if letter != ".":
                called.call(place)
        called.call(len(letters) // 2)
        return called.said()[len(letters) // 2]


BREAKERS = [(break_named, lambda letters, names: "X"), (break_nameless, lambda letters: "X"),
            (break_called, lambda letters, said: "X")]


class WrongCalls(unittest.TestCase):

    def most_of(self, breaker, wish, look, tell):
        with self.assertRaises(TooMany) as caught:
            breaker(wish, look, tell)
        return caught.exception.most

    def test_no_look(self):
        wrong = [value for value in odd_values() + [-1, 4, 5, "0", "1", [1], (1,), True, False, None, 10 ** 30]
                 if type(value) is not int or not 0 <= value <= 3]
        for breaker, tell in BREAKERS:
            for wish in [two(), whole(), three(), one_letter(), many_longs(), many_shorts(), crowned("a")]:
                for value in wrong:
                    self.assertRaises(NoLook, breaker, wish, value, tell)

    def test_too_many(self):
        dances = either(crowned("a"), round_dances("a"))
        for breaker, tell in BREAKERS:
            for wish, most in [(many_longs(), 20), (just_200_tables(), 20), (dances, 20), (crowned("a"), 100),
                               (either(crowned("ab"), many_shorts()), 100)]:
                self.assertEqual(self.most_of(breaker, wish, 1, tell), most)
            for wish in over_200_tables():
                for value in odd_values() + [0, 3, -1, 4]:
                    self.assertEqual(self.most_of(breaker, wish, value, tell), 200)
        # More than 24 short words bar a nameless program alone, be the wish near or not.
        near = Wish("ab", "XYZW", all_pairs("ab", "W") + many_shorts().pairs())
        for wish in (many_shorts(), near):
            self.assertEqual(self.most_of(break_nameless, wish, 1, lambda letters: "X"), 24)
        for breaker, tell in BREAKERS[::2]:
            self.assertRaises(IsNear, breaker, near, 1, tell)

    def test_is_near(self):
        for look in range(4):
            for wish in markers():
                self.assertRaises(IsNear, break_named, wish, look, lambda letters, names: None)
                self.assertRaises(IsNear, break_called, wish, look, lambda letters, said: None)
            for wish in [one_letter(), Wish("ba", "YX", all_pairs("ba", "YX")), nearly_nameless(["aWbW", "bWaW"])]:
                for breaker, _ in BREAKERS:
                    self.assertRaises(IsNear, breaker, wish, look, lambda *seen: None)

    def test_no_said(self):
        for value in odd_values() + ["W", "x", "XY", "a", ".", ["X"], ("X",), True, 0]:
            if value in ("X", "Y", "Z"):
                continue
            for wish in [two(), whole(), Wish("a", "XYZ", ["aXaY", "aYaZ", "aZaX"])]:
                for breaker, _ in BREAKERS:
                    self.assertRaises(NoSaid, breaker, wish, 1, lambda *seen: value)
            for wish in markers()[:2]:
                if value not in list(wish.said()):
                    self.assertRaises(NoSaid, break_nameless, wish, 1, lambda letters: value)

    def test_a_letter_of_another_wish(self):
        wish = two()
        self.assertRaises(NoSaid, break_named, wish, 0, lambda letters, names: "Z")
        self.assertRaises(NoSaid, break_nameless, wish, 0, lambda letters: "Z")
        self.assertRaises(NoSaid, break_called, wish, 0, lambda letters, said: "Z")

    def test_no_said_or_broken(self):
        """Where only some of what it gives is no said letter, or no letters would do, both are right."""
        judge = Judge()
        empty = Wish("ab", "XY", [])
        for look in range(4):
            for wish, named in [(empty, lambda letters, names: None),
                                (two(), lambda letters, names: "X" if names[0] < 9 else None)]:
                try:
                    _, names, _ = break_named(wish, look, named)
                    if wish == two():
                        judge.judge_named(wish, look, named)
                except NoSaid:
                    pass
            for wish in (empty, two()):
                try:
                    judge.judge_called(wish, look, lambda letters, said: None if set(said) != {"."} else "X")
                except NoSaid:
                    pass


class SameCalls(unittest.TestCase):

    def test_equal_calls(self):
        for wish in [two(), whole(), chance_wish(549, "ab", "XYZW", 0.3)]:
            before = as_told(wish)
            again = wide_wish(wish.given(), wish.said(), wish.pairs()[::-1])
            for look in range(4):
                stranger = Stranger(self, wish, look, ways()[-2])
                for breaker, tell in [(break_named, stranger.named), (break_nameless, stranger.nameless),
                                      (break_called, stranger.called)]:
                    found = breaker(wish, look, tell)
                    kept = [list(part) if isinstance(part, list) else part for part in found]
                    for part in found:
                        if isinstance(part, list):
                            part.clear()
                    self.assertEqual(list(breaker(wish, look, tell)), kept)
                    self.assertEqual(list(breaker(again, look, tell)), kept)
            self.assertEqual(as_told(wish), before)


if __name__ == "__main__":
    unittest.main()
