"""Houses that are called in any order, by an enemy."""

from nearwish.alltables import all_tables
from nearwish.checks import need_place, need_ring
from nearwish.filling import near_filler

# A ring has at least so many times K houses.
FEWEST = 8
# So many times K houses between two of them are always enough to fill in what stands between.
APART = 3


class Called:
    """A ring whose houses say a letter when they are called, each of them by what is near it.

    The houses that have said a letter stand in rows, at least 3 * K apart. The cell of the last house of a row goes
    with the m letters behind it: it stands in the lefts of the rectangle of their table. So it is with the first
    house and the m letters ahead of it. Between two rows there is room for two anchors, each just behind these
    letters, so whatever the rows say, the houses between them can be filled in.
    """

    def __init__(self, wish, word):
        self._space = all_tables(wish).m + 1
        need_ring(wish, word, FEWEST * self._space)
        self._filler = near_filler(wish)
        self._given = word
        self._said = ["." for _ in word]

    def call(self, place):
        """Calls the house: the dict from the houses that say a letter now to these letters."""
        need_place(place, len(self._given))
        if self._said[place] != ".":
            return {}
        marks = self._marks(place)
        told = self._filler.settled(self._given, marks, self._cells_of(marks))
        for house, letter in told.items():
            self._said[house] = letter
        return told

    def said(self):
        """The string of what the houses have said, "." for nothing."""
        return "".join(self._said)

    def given(self):
        """The ring."""
        return self._given

    def reach(self):
        """How far a call looks, and how far it makes houses say a letter."""
        # The row that is reached goes on less than K behind the place, and the next one is met less than 3 * K on.
        return 4 * self._space

    def _marks(self, place):
        """The marks by which the houses are filled in that say a letter with this one."""
        space = self._space
        first = self._nearest(place, -1)
        last = self._nearest(place, 1)
        if first is None and last is None:
            return [place - space, place, place + space]
        if last is None:
            end = first + self._rounded(place - first)
            last = self._nearest(end, 1)
            if last is None:
                return list(range(first, end + space + 1, space))
        elif first is None:
            begin = last - self._rounded(last - place)
            first = self._nearest(begin, -1)
            if first is None:
                return list(range(begin - space, last + 1, space))
        return [first, first + space, last - space, last]

    def _rounded(self, far):
        """The least multiple of K from `far` on."""
        return -(-far // self._space) * self._space

    def _nearest(self, place, step):
        """The nearest place, less than 3 * K away this way round, whose house has said a letter, or None."""
        size = len(self._given)
        for far in range(1, APART * self._space):
            if self._said[(place + step * far) % size] != ".":
                return place + step * far
        return None

    def _cells_of(self, marks):
        """The dict from those of the marks that have said a letter to their cells."""
        size = len(self._given)
        letters = {mark: (self._given[mark % size], self._said[mark % size]) for mark in marks}
        return {mark: self._filler.cell(given, said) for mark, (given, said) in letters.items() if said != "."}
