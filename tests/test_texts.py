"""[24] (and [2], [3], [4] for it): texts."""

import unittest
from random import Random

from nearwish.errors import NoText
from nearwish.levels import level
from nearwish.texts import read_wish, wish_text
from nearwish.together import both
from nearwish.wishes import Wish, wide_wish

from kinds import all_pairs, as_told, chance_wish, odd_values, some_wishes, three, two, whole

GIVEN = "abcdefghijklmnopqrstuvwxyz"
SAID = "ABCDEFGHIJKLMNOPQRSTUVWXYZ"


def wishes():
    found = some_wishes() + [two(), three(), whole(), both(three(), three()), Wish("a", "X", []), Wish("cba", "DCBA", [])]
    found += [chance_wish(seed, "bca", "ZYX", 0.2) for seed in range(10)]
    found += [wide_wish(GIVEN, "X", []), wide_wish("a", SAID, all_pairs("a", SAID)), wide_wish(GIVEN[::-1], SAID, []),
              chance_wish_wide(1), chance_wish_wide(2)]
    return found


def chance_wish_wide(seed):
    chance = Random(seed)
    given = "".join(chance.sample(GIVEN, 5))
    said = "".join(chance.sample(SAID, 7))
    return wide_wish(given, said, [pair for pair in all_pairs(given, said) if chance.random() < 0.1])


def told_text(wish):
    """By the words of [24]."""
    return "given " + wish.given() + "\nsaid " + wish.said() + "\npairs" + "".join(" " + pair for pair in wish.pairs())


def told_wish(text):
    """Whether it is the text of a wish, letter by letter, by the words of [24]."""
    lines = text.split("\n")
    if len(lines) != 3 or not lines[0].startswith("given ") or not lines[1].startswith("said "):
        return False
    given, said = lines[0][6:], lines[1][5:]
    for letters, all_letters in ((given, GIVEN), (said, SAID)):
        if letters == "" or len(set(letters)) != len(letters) or not set(letters) <= set(all_letters):
            return False
    order = {pair: k for k, pair in enumerate(all_pairs(given, said))}
    parts = lines[2].split(" ")
    if parts[0] != "pairs" or any(pair not in order for pair in parts[1:]):
        return False
    places = [order[pair] for pair in parts[1:]]
    return places == sorted(set(places))


class Texts(unittest.TestCase):

    def test_told_ones(self):
        self.assertEqual(wish_text(two()), "given a\nsaid XY\npairs aXaY aYaX")
        self.assertEqual(wish_text(Wish("a", "X", [])), "given a\nsaid X\npairs")
        self.assertEqual(wish_text(Wish("ba", "YX", ["aXbX", "bYaX", "bYbX"])), "given ba\nsaid YX\npairs bYbX bYaX aXbX")

    def test_written_and_read(self):
        for wish in wishes():
            before = as_told(wish)
            text = wish_text(wish)
            self.assertEqual(text, told_text(wish))
            found = read_wish(text)
            self.assertIs(type(found), Wish)
            self.assertEqual(as_told(found), before)
            self.assertTrue(found == wish)
            self.assertEqual(wish_text(found), text)
            self.assertEqual(as_told(wish), before)

    def test_beyond_the_numbers_of_letters(self):
        text = "given abcd\nsaid VWXYZ\npairs aVbW dZdZ"
        wish = read_wish(text)
        self.assertEqual(as_told(wish)[:2], ("abcd", "VWXYZ"))
        self.assertEqual(len(wish.cells()), 20)
        self.assertEqual(wish_text(wish), text)
        self.assertEqual(read_wish(wish_text(both(two(), three()))), both(two(), three()))

    def test_what_was_read_is_a_wish_for_every_function(self):
        wish = read_wish("given a\nsaid XYZ\npairs aXaY aXaZ aYaX aYaZ aZaX aZaY")
        self.assertEqual(level(wish), "marks")
        self.assertTrue(wish == three())


class NoTexts(unittest.TestCase):

    def refused(self, text):
        with self.assertRaises(NoText):
            read_wish(text)

    def test_told_ones(self):
        for text in ["", "given a", "given a\nsaid X", "given a\nsaid X\n", "given a\nsaid X\npairs\n",
                     "given a\nsaid X\npairs ", "given a\nsaid X\n pairs", "given a\nsaid X\npairs  aXaX",
                     "given a\nsaid X\npairs aXaX ", "given a\nsaid X\npairs aXaX\n", "\ngiven a\nsaid X\npairs aXaX",
                     "given a\r\nsaid X\r\npairs aXaX", "given a\nsaid X\npairs aXaX\r", "given a\nsaid X\npairs\taXaX",
                     "given  a\nsaid X\npairs aXaX", "given a \nsaid X\npairs aXaX", " given a\nsaid X\npairs aXaX",
                     "given a\nsaid  X\npairs aXaX", "given a\nsaid X \npairs aXaX", "given a\n\nsaid X\npairs aXaX",
                     "said X\ngiven a\npairs aXaX", "given a\npairs aXaX\nsaid X", "given a\nsaid X\nsaid X\npairs aXaX",
                     "given a\ngiven a\nsaid X\npairs", "given \nsaid X\npairs", "given\nsaid X\npairs",
                     "given a\nsaid \npairs", "given a\nsaid\npairs", "given aa\nsaid X\npairs", "given a\nsaid XX\npairs",
                     "given A\nsaid X\npairs", "given a\nsaid x\npairs", "given a1\nsaid X\npairs", "given a\nsaid X1\npairs",
                     "given a b\nsaid X\npairs", "given a\nsaid X Y\npairs", "given a\nsaid X\npairs aXa",
                     "given a\nsaid X\npairs aXaXa", "given a\nsaid X\npairs aXaX aXaX", "given a\nsaid X\npairs aXbX",
                     "given a\nsaid X\npairs aXaY", "given a\nsaid X\npairs XaXa", "given a\nsaid XY\npairs aYaX aXaY",
                     "given ab\nsaid X\npairs bXaX aXbX", "given ba\nsaid X\npairs aXbX bXaX",
                     "Given a\nsaid X\npairs", "given a\nSaid X\npairs", "given a\nsaid X\nPairs", "givena\nsaid X\npairs",
                     "given a\nsaidX\npairs", "given a\nsaid X\npairsaXaX", "given a said X pairs aXaX",
                     "given a\nsaid X pairs aXaX", "given a said X\npairs aXaX", "given a\nsaid X\npairs\naXaX",
                     "given a\nsaid XY\npairs aXaY\naYaX", "given a\nsaid X\npairs aXaX given a\nsaid X\npairs aXaX",
                     "pairs\nsaid X\ngiven a", "given a,b\nsaid X\npairs", "given a\nsaid X\npairs aXaX, aXaX"]:
            self.assertFalse(told_wish(text), repr(text))
            self.refused(text)

    def test_other_values(self):
        for value in odd_values() + [["given a", "said X", "pairs"], ("given a\nsaid X\npairs",), True, None, 7]:
            self.refused(value)

    def test_changed_at_each_place(self):
        chance = Random(1)
        wishes_left = 0
        for wish in [two(), whole(), Wish("ba", "YX", ["bYaX", "aXaX"]), Wish("a", "X", []), Wish("abc", "XY", ["aXbX"])]:
            text = wish_text(wish)
            signs = " \n\r\tabcXYZ0gs"
            changed = [text[:k] + text[k + 1:] for k in range(len(text))]
            changed += [text[:k] + sign + text[k:] for k in range(len(text) + 1) for sign in signs]
            changed += [text[:k] + sign + text[k + 1:] for k in range(len(text)) for sign in signs]
            changed += [text[:k] + text[k + 1] + text[k] + text[k + 2:] for k in range(len(text) - 1)]
            changed += [text[:k] for k in range(len(text))] + [text[k:] for k in range(1, len(text))] + [text * 2]
            lines = text.split("\n")
            for _ in range(20):
                chance.shuffle(lines)
                changed.append("\n".join(lines))
            for other in changed:
                if told_wish(other):
                    self.assertEqual(wish_text(read_wish(other)), other)
                    wishes_left += 1
                else:
                    self.refused(other)
        self.assertGreater(wishes_left, 20)

    def test_pairs_out_of_order(self):
        text = wish_text(three())
        parts = text.split(" ")
        for k in range(3, len(parts) - 1):
            self.refused(" ".join(parts[:k] + [parts[k + 1], parts[k]] + parts[k + 2:]))
            self.refused(" ".join(parts[:k + 1] + [parts[k]] + parts[k + 1:]))
            self.assertEqual(len(read_wish(" ".join(parts[:k] + parts[k + 1:])).pairs()), 5)


if __name__ == "__main__":
    unittest.main()
