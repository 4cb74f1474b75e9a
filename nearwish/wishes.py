"""Wishes: which letters may stand side by side, given and said."""

from nearwish.checks import are_letters
from nearwish.errors import NoWish

GIVEN_LETTERS = "abcdefghijklmnopqrstuvwxyz"
SAID_LETTERS = "ABCDEFGHIJKLMNOPQRSTUVWXYZ"
MOST_GIVEN = 3
MOST_SAID = 4


def are_different(value, letters, most):
    """Whether it is a string of 1 to `most` different ones of these letters."""
    if not are_letters(value, letters):
        return False
    return 1 <= len(value) <= most and len(set(value)) == len(value)


def _is_pair(value, given, said):
    """Whether it is a string of two cells."""
    if not isinstance(value, str) or len(value) != 4:
        return False
    return are_letters(value[::2], given) and are_letters(value[1::2], said)


def are_pairs(value, given, said):
    """Whether it is a list of strings of two cells, none of them twice."""
    if not isinstance(value, list):
        return False
    seen = set()
    for pair in value:
        if not _is_pair(pair, given, said) or pair in seen:
            return False
        seen.add(pair)
    return True


class Wish:
    """A wish: its given letters, its said letters, its pairs. It does not change."""

    def __init__(self, given, said, pairs):
        if not are_different(given, GIVEN_LETTERS, MOST_GIVEN):
            raise NoWish("given")
        if not are_different(said, SAID_LETTERS, MOST_SAID):
            raise NoWish("said")
        if not are_pairs(pairs, given, said):
            raise NoWish("pairs")
        self._fill(given, said, pairs)

    def _fill(self, given, said, pairs):
        self._given = given
        self._said = said
        self._cells = [x + s for x in given for s in said]
        self._allowed = {pair: True for pair in pairs}
        # Kept in the order of the wish, so that equal wishes have equal lists.
        self._pairs = [p + q for p in self._cells for q in self._cells if p + q in self._allowed]
        self._kept = {}

    def __eq__(self, other):
        return (isinstance(other, Wish) and self._given == other._given
                and self._said == other._said and self._pairs == other._pairs)

    def given(self):
        """The string of the given letters."""
        return self._given

    def said(self):
        """The string of the said letters."""
        return self._said

    def cells(self):
        """The list of all cells, in order."""
        return list(self._cells)

    def pairs(self):
        """The list of the pairs, in order."""
        return list(self._pairs)

    def beside(self, cell, behind):
        """Whether the cell `behind` may stand in the next house of one with the cell `cell`."""
        return cell + behind in self._allowed

    def kept(self, name):
        """What was kept under this name, or None."""
        return self._kept.get(name)

    def keep(self, name, found):
        """Keeps what was worked out of the wish: as it does not change, neither does this."""
        self._kept[name] = found


def wide_wish(given, said, pairs):
    """The wish with these letters and pairs, however many there are: the caller answers for their form."""
    wish = Wish("a", "A", [])
    wish._fill(given, said, pairs)
    return wish


def with_letters(wish, said):
    """The wish with these said letters alone, which stand in its order."""
    pairs = [pair for pair in wish.pairs() if pair[1] in said and pair[3] in said]
    return wide_wish(wish.given(), said, pairs)
