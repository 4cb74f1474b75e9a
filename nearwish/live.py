"""Rings that change for ever, and have a right answer at every moment."""

from nearwish.alltables import all_tables
from nearwish.checks import need_letter, need_place, need_ring
from nearwish.errors import NoHouse
from nearwish.filling import near_filler

# A ring has at least so many times K houses.
FEWEST = 8
# An anchor and the next one stand at least K and at most so many times K apart.
APART = 3


class LiveRing:
    """A ring that changes, with anchors: between each and the next one stands a word with a long table.

    Where a word between two anchors changes, these two anchors say what goes with it now, and so the houses between
    the anchor ahead of them and the one behind them. All others say what they said.
    """

    def __init__(self, wish, word):
        self._space = all_tables(wish).m + 1
        need_ring(wish, word, FEWEST * self._space)
        self._filler = near_filler(wish)
        self._wish = wish
        self._given = list(word)
        # The last one stands far enough ahead of house 0.
        self._anchors = list(range(0, len(word) - self._space + 1, self._space))
        self._said = list(self._filler.answer(word, self._anchors, {}))

    def put(self, place, letter):
        """Puts in a house: the dict from it and the houses that say something else now to what they say."""
        need_place(place, len(self._given) + 1)
        need_letter(self._wish, letter)
        self._given.insert(place, letter)
        # It has said nothing yet, so whatever it says is something else.
        self._said.insert(place, "")
        self._anchors = [anchor + 1 if anchor >= place else anchor for anchor in self._anchors]
        return self._mended(place)

    def change(self, place, letter):
        """Gives the house a letter: the dict from the houses that say something else now to what they say."""
        need_place(place, len(self._given))
        need_letter(self._wish, letter)
        self._given[place] = letter
        return self._mended(place)

    def strike(self, place):
        """Takes out the house: the dict from the houses that say something else now to what they say."""
        need_place(place, len(self._given))
        if len(self._given) == FEWEST * self._space:
            raise NoHouse()
        del self._given[place]
        del self._said[place]
        kept = [anchor for anchor in self._anchors if anchor != place]
        self._anchors = [anchor - 1 if anchor > place else anchor for anchor in kept]
        return self._mended(place)

    def given(self):
        """The ring."""
        return "".join(self._given)

    def said(self):
        """What the houses say."""
        return "".join(self._said)

    def reach(self):
        """How far from a change a house may say something else."""
        # Two words next to each other become one of less than 4 * K letters, and the next word is filled in anew.
        return 7 * self._space

    def _mended(self, place):
        """Sets right what a deed at the place makes wrong, between the two anchors about it; as `_settled`."""
        size = len(self._given)
        k = self._behind(place)
        if self._place_of(k) - self._place_of(k - 1) < self._space:
            self._anchors.remove(self._place_of(k) % size)
            k = self._behind(place)
        first = self._place_of(k - 1)
        far = self._place_of(k) - first
        if far <= APART * self._space:
            return self._settled(k - 2, k + 1)
        self._anchors = sorted(self._anchors + [(first + far // 2) % size])
        k = self._anchors.index(first % size)
        return self._settled(k - 1, k + 3)

    def _behind(self, place):
        """The index of the first anchor from the place on; their number, if it is the first one of all."""
        return len([anchor for anchor in self._anchors if anchor < place])

    def _place_of(self, k):
        """The place of the anchor with the index k; the indexes and the places go on round the ring."""
        many = len(self._anchors)
        return self._anchors[k % many] + k // many * len(self._given)

    def _settled(self, first, last):
        """Lets the anchors between those with these two indexes say what goes with the words now.

        Returns the dict from the houses that say something else now to what they say.
        """
        size = len(self._given)
        marks = [self._place_of(k) for k in range(first, last + 1)]
        ends = [marks[0], marks[-1]]
        cells = {mark: self._filler.cell(self._given[mark % size], self._said[mark % size]) for mark in ends}
        told = self._filler.settled(self._given, marks, cells)
        changed = {house: letter for house, letter in told.items() if self._said[house] != letter}
        for house, letter in changed.items():
            self._said[house] = letter
        return changed
