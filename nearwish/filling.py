"""Answers a ring by a book: first what some marked houses say, then what those between them say."""

from nearwish.alltables import all_tables
from nearwish.errors import NotNear
from nearwish.grids import lowest, union
from nearwish.search import solved_near


class Filler:
    """Fills in the answers to rings, with the rectangle for each long table of a wish."""

    def __init__(self, known, rectangles):
        self._known = known
        self._rectangles = rectangles

    def answer(self, word, anchors, cells):
        """A right answer to the ring: `cells` is the dict from the houses with run cells to these.

        The words between an anchor and the next one have long tables. An anchor that stands alone between two run
        cells has a cell, too: as the run cells go together, so do those between them.
        """
        marks = sorted(anchors + list(cells))
        turn = marks + [marks[0] + len(word)]
        betweens = self._betweens(word, turn)
        numbers = [self._known.follow(0, between) for between in betweens]
        row = dict(cells)
        for k, mark in enumerate(marks):
            if mark not in cells:
                ahead = cells.get(marks[k - 1])
                behind = cells.get(marks[(k + 1) % len(marks)])
                fits = self._rights(numbers[k - 1], ahead) & self._lefts(numbers[k], behind)
                row[mark] = self._anchor(word[mark], fits)
        row[turn[-1]] = row[marks[0]]
        told = self._told(len(word), turn, betweens, row)
        return "".join([told[house] for house in range(len(word))])

    def settled(self, word, marks, cells):
        """The dict from houses of the ring to what they say, if some marked houses say something already.

        `marks` is the ascending list of places, which go on round the ring, at least m letters between each and the
        next one; `cells` is the dict from those of them that say something to their cells. The marks between the
        first and the last one say something now, and so do the houses between two marks that do.
        """
        size = len(word)
        betweens = self._betweens(word, marks)
        numbers = [self._known.follow(0, between) for between in betweens]
        row = dict(cells)
        for k in range(1, len(marks) - 1):
            if marks[k] not in cells:
                fits = self._rights(numbers[k - 1], None) & self._lefts(numbers[k], None)
                row[marks[k]] = self._anchor(word[marks[k] % size], fits)
        told = self._told(size, marks, betweens, row)
        already = [mark % size for mark in cells]
        return {house: letter for house, letter in told.items() if house not in already}

    def cell(self, given, said):
        """The index of the cell of these letters."""
        return self._known.grid.places[given + said]

    def _betweens(self, word, marks):
        """The words between each mark and the next one."""
        size = len(word)
        return ["".join([word[k % size] for k in range(one + 1, other)]) for one, other in zip(marks, marks[1:])]

    def _rights(self, k, cell):
        """The cells for an anchor behind a word with the table k, ahead of which a run cell, or an anchor, stands."""
        return self._rectangles[k][1] if cell is None else self._known.rows[k][cell]

    def _lefts(self, k, cell):
        """The cells for an anchor ahead of a word with the table k, behind which a run cell, or an anchor, stands."""
        return self._rectangles[k][0] if cell is None else self._known.column(k, cell)

    def _anchor(self, letter, fits):
        """The first of these cells with the given letter."""
        grid = self._known.grid
        return lowest(fits & grid.of_letter[grid.letters.index(letter)])

    def _told(self, size, marks, betweens, row):
        """What the marks with a cell in `row` say, and the houses between two of them that stand side by side."""
        names = self._known.grid.names
        told = {mark % size: names[cell][1] for mark, cell in row.items()}
        for mark, after, between in zip(marks, marks[1:], betweens):
            if mark in row and after in row:
                for far, cell in enumerate(self._path(row[mark], between, row[after])):
                    told[(mark + 1 + far) % size] = names[cell][1]
        return told

    def _path(self, p, between, q):
        """The cells of the word between the cells p and q: each of them the first one with which one can go on."""
        grid = self._known.grid
        fits = []
        goal = grid.befores[q]
        for letter in reversed(between):
            goal = goal & grid.of_letter[grid.letters.index(letter)]
            fits.append(goal)
            goal = union(grid.befores, goal)
        cells = []
        now = p
        for goal in reversed(fits):
            now = lowest(grid.nexts[now] & goal)
            cells.append(now)
        return cells


def near_filler(wish):
    """What fills in rings by a book of the wish; NotNear if it has none."""
    solved = solved_near(wish)
    if solved.fixed is None:
        raise NotNear()
    return Filler(all_tables(wish), solved.rectangles())
