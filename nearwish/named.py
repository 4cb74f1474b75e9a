"""Programs for houses with names."""

from nearwish.alltables import all_tables
from nearwish.checks import is_integer, need_number, need_ring
from nearwish.errors import NoBound, NoNames
from nearwish.filling import near_filler
from nearwish.spacing import FEW_SHADES, NameShades, rounds, spaced

MOST_NAMES = 10 ** 60


def halvings(number):
    """How often the shades of so many are to be made less until there are at most six."""
    need_number(number, 1, MOST_NAMES)
    found = 0
    rest = number
    while rest > FEW_SHADES:
        rest = 2 * (rest - 1).bit_length()
        found += 1
    return found


class NamedProgram:
    """A program by which houses with names below a bound answer each ring, each of them by what is near it."""

    def __init__(self, wish, bound):
        known = all_tables(wish)
        if not is_integer(bound) or bound < 1 or bound > MOST_NAMES:
            raise NoBound()
        self._wish = wish
        self._bound = bound
        self._least = known.m + 1
        self._filler = near_filler(wish)

    def look(self):
        """How far each house sees."""
        away = rounds(self._least) * (self._least - 1)
        # A house says what hangs on the two anchors about it, and on the ones that stand next to these.
        return away * (halvings(self._bound) + 5) + 2 * (2 * away + 1)

    def says(self, word, names):
        """A right answer to the ring whose house k has the name names[k]."""
        need_ring(self._wish, word, self._least)
        if not self._are_names(names, len(word)):
            raise NoNames()
        shades = NameShades(list(names), self._bound)
        anchors = spaced(len(word), list(range(len(word))), self._least, shades)
        return self._filler.answer(word, anchors, {})

    def _are_names(self, names, many):
        """Whether it is a list of so many different names below the bound."""
        if not isinstance(names, list) or len(names) != many:
            return False
        if not all([is_integer(name) and 0 <= name < self._bound for name in names]):
            return False
        return len(set(names)) == many
