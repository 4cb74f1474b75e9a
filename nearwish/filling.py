"""Answers a ring by a book: first what some marked houses say, then what those between them say."""

from nearwish.grids import lowest, union


class Filler:
    """Fills in the answers to rings, with the rectangle for each long table of a wish."""

    def __init__(self, known, rectangles):
        self._known = known
        self._rectangles = rectangles

    def answer(self, word, anchors, cells):
        """A right answer to the ring: `cells` is the dict from the houses with run cells to these.

        The words between an anchor and the next one have long tables. An anchor that stands alone between two run
        cells has a cell, too: as the run cells go together, so do those between them.
        """
        marks = sorted(anchors + list(cells))
        betweens = self._betweens(word, marks)
        numbers = [self._known.follow(0, between) for between in betweens]
        row = []
        for k, mark in enumerate(marks):
            ahead = cells.get(marks[k - 1])
            behind = cells.get(marks[(k + 1) % len(marks)])
            fits = self._rights(numbers[k - 1], ahead) & self._lefts(numbers[k], behind)
            row.append(cells[mark] if mark in cells else self._anchor(word[mark], fits))
        return self._filled(word, marks, betweens, row)

    def _betweens(self, word, marks):
        """The words between each mark and the next one."""
        size = len(word)
        double = word + word
        ends = marks[1:] + [marks[0] + size]
        return [double[mark + 1:end] for mark, end in zip(marks, ends)]

    def _rights(self, k, cell):
        """The cells for an anchor behind a word with the table k, ahead of which a run cell, or an anchor, stands."""
        return self._rectangles[k][1] if cell is None else self._known.rows[k][cell]

    def _lefts(self, k, cell):
        """The cells for an anchor ahead of a word with the table k, behind which a run cell, or an anchor, stands."""
        return self._rectangles[k][0] if cell is None else self._known.column(k, cell)

    def _anchor(self, letter, fits):
        """The first of these cells with the given letter."""
        grid = self._known.grid
        return lowest(fits & grid.of_letter[grid.letters.index(letter)])

    def _filled(self, word, marks, betweens, row):
        """The answer with these cells at the marks."""
        size = len(word)
        names = self._known.grid.names
        said = ["" for _ in word]
        for k, mark in enumerate(marks):
            cells = [row[k]] + self._path(row[k], betweens[k], row[(k + 1) % len(row)])
            for far, cell in enumerate(cells):
                said[(mark + far) % size] = names[cell][1]
        return "".join(said)

    def _path(self, p, between, q):
        """The cells of the word between the cells p and q: each of them the first one with which one can go on."""
        grid = self._known.grid
        fits = []
        goal = grid.befores[q]
        for letter in reversed(between):
            goal = goal & grid.of_letter[grid.letters.index(letter)]
            fits.append(goal)
            goal = union(grid.befores, goal)
        cells = []
        now = p
        for goal in reversed(fits):
            now = lowest(grid.nexts[now] & goal)
            cells.append(now)
        return cells
