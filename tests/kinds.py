"""What several tests share: wishes, and values of every kind that an argument may have."""

from itertools import product
from random import Random

from nearwish.errors import NoWord
from nearwish.wishes import Wish


def all_pairs(given, said):
    cells = [x + s for x in given for s in said]
    return [p + q for p in cells for q in cells]


def three():
    return Wish("a", "XYZ", ["aXaY", "aXaZ", "aYaX", "aYaZ", "aZaX", "aZaY"])


def two():
    return Wish("a", "XY", ["aXaY", "aYaX"])


def whole():
    side = ["cXaX", "cXaY", "aXcX", "aYcX", "cXcX"]
    return Wish("ac", "XYZ", ["aXaY", "aYaX", "aZaZ"] + side)


def some_wishes():
    """Wishes of many shapes, with letters in and out of the order of the alphabet."""
    found = [three(), two(), whole(), Wish("a", "X", ["aXaX"]), Wish("a", "X", []), Wish("zm", "QB", [])]
    found += [Wish("a", "XYZ", ["aXaY", "aYaZ", "aZaX"]), Wish("ba", "YX", all_pairs("ba", "YX"))]
    chance = Random(7)
    for given, said in [("a", "XYZW"), ("ba", "ZAY"), ("ca", "DCBA"), ("cab", "YX"), ("abc", "WXYZ"), ("b", "BA")]:
        for share in (0.3, 0.5, 0.8):
            pairs = [pair for pair in all_pairs(given, said) if chance.random() < share]
            chance.shuffle(pairs)
            found.append(Wish(given, said, pairs))
    return found


def words(given, most):
    """All words with 1 to `most` letters."""
    return ["".join(row) for many in range(1, most + 1) for row in product(given, repeat=many)]


def answers(word, said):
    """All answers to the word, in order."""
    return ["".join(row) for row in product(said, repeat=len(word))]


def nested(depth, wrap):
    value = wrap(0)
    for _ in range(depth - 1):
        value = wrap(value)
    return value


def odd_values():
    """Values of every kind that an argument may have which an error is named for."""
    return [
        0, 1, -1, 2, 59, 10 ** 30, -10 ** 30, True, False, None,
        "", "a", "A", "X", "b", "aa", "aX", "Xa", "aXaY", " ", "a ", "\n", "0", "1", "given", "~",
        [], [0], ["a"], ["X"], ["a", "a"], ["aXaY"], [None], [[]], [True, False], [{}],
        (), (0,), ("a",), ("X",), ("aXaY",), (None,), ((),), ([],), ("a", ["X"]),
        {}, {"a": "X"}, {0: 1}, {"aXaY": True}, {("a", "X"): []},
        nested(30, lambda value: [value]), nested(30, lambda value: (value,)), nested(30, lambda value: {"a": value}),
        two(), two().cells(), two().pairs(), tuple(two().pairs()), [two()], NoWord(),
    ]
