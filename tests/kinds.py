"""What several tests share: wishes, and values of every kind that an argument may have."""

from itertools import product
from random import Random

from nearwish.errors import NoWord
from nearwish.tables import start
from nearwish.wishes import Wish, wide_wish


def all_pairs(given, said):
    cells = [x + s for x in given for s in said]
    return [p + q for p in cells for q in cells]


def three():
    return Wish("a", "XYZ", ["aXaY", "aXaZ", "aYaX", "aYaZ", "aZaX", "aZaY"])


def two():
    return Wish("a", "XY", ["aXaY", "aYaX"])


def whole():
    side = ["cXaX", "cXaY", "aXcX", "aYcX", "cXcX"]
    return Wish("ac", "XYZ", ["aXaY", "aYaX", "aZaZ"] + side)


def one_letter():
    return Wish("a", "X", ["aXaX"])


def chance_wish(seed, given, said, share):
    chance = Random(seed)
    return Wish(given, said, [pair for pair in all_pairs(given, said) if chance.random() < share])


def just_200_tables():
    return chance_wish(125, "ab", "XYZ", 0.4)


def over_200_tables():
    """Wishes with more than 200 tables, the first one with 201."""
    return [chance_wish(50, "ab", "XYZW", 0.4), chance_wish(85, "ab", "XYZW", 0.3), chance_wish(1, "abc", "WXYZ", 0.3)]


def crowned(given):
    """A wish with just one table, for words of each length, that has more than 100 greatest rectangles."""
    said = "ABCDEFGHIJKLMN"
    beside = [s + s for s in said] + [said[k] + said[7 + j] for k in range(7) for j in range(7) if k != j]
    return wide_wish(given, said, [x + st[0] + y + st[1] for x in given for y in given for st in beside])


def either(one, other):
    """The wish whose houses all keep to the one wish, or all to the other one, which has other said letters."""
    return wide_wish(one.given(), one.said() + other.said(), one.pairs() + other.pairs())


def round_dances(given):
    """A wish of the letters O to Z with 35 long tables: rounds of 5 and of 7 letters."""
    after = dict(zip("OPQRSTUVWXYZ", "PQRSOUVWXYZT"))
    pairs = [x + s + y + after[s] for x in given for y in given for s in after]
    return wide_wish(given, "OPQRSTUVWXYZ", pairs)


def many_longs():
    """More than 20 long tables, and more than 24 short words."""
    return chance_wish(7, "ab", "XY", 0.25)


def many_shorts():
    """No more than 20 long tables, and more than 24 short words."""
    return chance_wish(7, "ab", "XY", 0.2)


def just_20_longs():
    return chance_wish(105, "ab", "XY", 0.35)


def nearly_nameless(more):
    """Three unlike letters, or W, which may stand beside itself: `more` is the list of the other pairs with W."""
    unlike = [x + s + y + t for x in "ab" for y in "ab" for s in "XYZ" for t in "XYZ" if s != t]
    return Wish("ab", "XYZW", unlike + ["aWaW", "bWbW"] + more)


def hard_to_end():
    """Three unlike letters, or V and W, whose runs go together, but not with the books."""
    unlike = [x + s + y + t for x in "ab" for y in "ab" for s in "XYZ" for t in "XYZ" if s != t]
    others = ["aVaV", "aVaW", "aVbW", "aWaW", "aWbV", "bVaV", "bVbV", "bVbW", "bWaW", "bWbV"]
    return wide_wish("ab", "XYZVW", unlike + others)


def turned(wish):
    """The wish for the ring that is read the other way round."""
    return wide_wish(wish.given(), wish.said(), [pair[2:] + pair[:2] for pair in wish.pairs()])


def near_wishes():
    """Wishes with a book, of the levels "marks" and "nameless"."""
    return [three(), one_letter(), Wish("a", "XYZ", ["aXaY", "aYaZ", "aZaX", "aYaX"]), nearly_nameless([]),
            Wish("a", "XYZW", ["aXaY", "aYaZ", "aZaX", "aZaW", "aWaX"]), chance_wish(134, "a", "XYZW", 0.25),
            Wish("ba", "YX", all_pairs("ba", "YX")), chance_wish(59, "a", "XYZW", 0.5),
            chance_wish(73, "ab", "XYZ", 0.55), chance_wish(75, "abc", "XYZ", 0.7), chance_wish(9, "ab", "XYZW", 0.4),
            hard_to_end(), chance_wish(169, "abc", "XY", 0.7)]


def k_of(wish):
    """The K of the document."""
    return start(wish)[0] + 1


def ring(chance, given, houses):
    """A word of letters by chance, in which some short words come again and again."""
    word = ""
    while len(word) < houses:
        part = "".join(chance.choice(given) for _ in range(chance.randrange(1, 7)))
        word += part * chance.choice([1, 1, 2, 5, 30])
    return word[:houses]


def some_wishes():
    """Wishes of many shapes, with letters in and out of the order of the alphabet."""
    found = [three(), two(), whole(), Wish("a", "X", ["aXaX"]), Wish("a", "X", []), Wish("zm", "QB", [])]
    found += [Wish("a", "XYZ", ["aXaY", "aYaZ", "aZaX"]), Wish("ba", "YX", all_pairs("ba", "YX"))]
    chance = Random(7)
    for given, said in [("a", "XYZW"), ("ba", "ZAY"), ("ca", "DCBA"), ("cab", "YX"), ("abc", "WXYZ"), ("b", "BA")]:
        for share in (0.3, 0.5, 0.8):
            pairs = [pair for pair in all_pairs(given, said) if chance.random() < share]
            chance.shuffle(pairs)
            found.append(Wish(given, said, pairs))
    return found


def words(given, most):
    """All words with 1 to `most` letters."""
    return ["".join(row) for many in range(1, most + 1) for row in product(given, repeat=many)]


def answers(word, said):
    """All answers to the word, in order."""
    return ["".join(row) for row in product(said, repeat=len(word))]


def nested(depth, wrap):
    value = wrap(0)
    for _ in range(depth - 1):
        value = wrap(value)
    return value


def odd_values():
    """Values of every kind that an argument may have which an error is named for."""
    return [
        0, 1, -1, 2, 59, 10 ** 30, -10 ** 30, True, False, None,
        "", "a", "A", "X", "b", "aa", "aX", "Xa", "aXaY", " ", "a ", "\n", "0", "1", "given", "~",
        [], [0], ["a"], ["X"], ["a", "a"], ["aXaY"], [None], [[]], [True, False], [{}],
        (), (0,), ("a",), ("X",), ("aXaY",), (None,), ((),), ([],), ("a", ["X"]),
        {}, {"a": "X"}, {0: 1}, {"aXaY": True}, {("a", "X"): []},
        nested(30, lambda value: [value]), nested(30, lambda value: (value,)), nested(30, lambda value: {"a": value}),
        two(), two().cells(), two().pairs(), tuple(two().pairs()), [two()], NoWord(),
    ]


def as_told(wish):
    """All that can be asked of a wish: to see that it stayed as it was."""
    return wish.given(), wish.said(), wish.cells(), wish.pairs()
