"""Programs for houses without names."""

from nearwish.alltables import all_tables
from nearwish.checks import need_ring
from nearwish.errors import NotNear
from nearwish.filling import Filler
from nearwish.named import halvings
from nearwish.search import solved_nameless
from nearwish.shortwords import least_turn
from nearwish.spacing import LetterShades, rounds, spaced
from nearwish.stretches import matches, outside, stretches


class NamelessProgram:
    """A program by which houses without names answer each ring, each of them by the letters near it.

    Where a short word comes again and again, a stretch, the houses where it begins have its run cell, but not those
    near the ends of the stretch. Between two houses outside of all stretches that stand at most m apart, the letters
    from them on differ soon. So among them anchors can be picked as among houses with names.
    """

    def __init__(self, wish):
        solved = solved_nameless(wish)
        if solved.fixed is None:
            raise NotNear()
        known = all_tables(wish)
        self._wish = wish
        self._m = known.m
        self._filler = Filler(known, solved.rectangles())
        self._run_cells = solved.run_cells()
        # So far from the ends of a stretch, its word comes often enough, and no other stretch reaches so far.
        self._margin = max([run.enough for run in solved.puzzle.runs] + [0]) + 2 * known.m
        self._stretch = 2 * self._margin + known.m
        # So far from each house outside of all stretches, there is an anchor.
        self._away = rounds(known.m + 1) * known.m

    def look(self):
        """How far each house sees."""
        if self._m == 0:
            return 0
        many = len(self._wish.given())
        picking = self._stretch + self._away * (halvings(self._stretch * many) + 6)
        # A house says what hangs on the two marks about it, and on the ones that stand next to these.
        return picking + 2 * (2 * self._margin + 2 * self._m + 2 * self._away + 1)

    def says(self, word):
        """A right answer to the ring."""
        need_ring(self._wish, word)
        # A ring that is a word again and again looks the same about each copy.
        root = word[:(word + word).find(word, 1)]
        if len(root) <= self._m:
            return self._answer_short(root) * (len(word) // len(root))
        return self._answer_long(root) * (len(word) // len(root))

    def _answer_short(self, root):
        """The answer to the ring in which a short word comes again and again for ever."""
        turn = least_turn(self._wish.given(), root)
        return self._filler.answer(root, [], {turn: self._run_cells[root[turn:] + root[:turn]]})

    def _answer_long(self, root):
        """The answer to a ring that is not a shorter word repeated, and no rotation of a short word."""
        size = len(root)
        # No letters match at the distance 0, as nothing is asked of it.
        all_matches = [[]] + [matches(root, far) for far in range(1, self._m + 1)]
        rows = stretches(root, self._stretch, all_matches)
        cells = {}
        for first, many, step in rows:
            cells.update(self._cells_in(root, first, many, step))
        shades = LetterShades(root, self._wish.given(), self._stretch, all_matches)
        anchors = spaced(size, outside(size, rows), self._m + 1, shades)
        return self._filler.answer(root, anchors, cells)

    def _cells_in(self, root, first, many, step):
        """The dict from the houses with a run cell in the stretch to these."""
        size = len(root)
        copy = "".join([root[(first + k) % size] for k in range(step)])
        turn = least_turn(self._wish.given(), copy)
        cell = self._run_cells[copy[turn:] + copy[:turn]]
        inner = range(first + self._margin, first + many - self._margin + 1)
        return {k % size: cell for k in inner if (k - first - turn) % step == 0}
