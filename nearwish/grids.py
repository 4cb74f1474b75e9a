"""The cells of a wish by their indexes: bit k of an integer tells whether the cell with index k is in a set."""


def bits(mask):
    """The ascending list of the indexes of the cells in the set."""
    found = []
    rest = mask
    while rest > 0:
        low = rest & -rest
        found.append(low.bit_length() - 1)
        rest -= low
    return found


def lowest(mask):
    """The index of the first cell in the set, which is not empty."""
    return (mask & -mask).bit_length() - 1


def union(rows, mask):
    """All that stands in a row of a cell in the set."""
    whole = 0
    for k in bits(mask):
        whole |= rows[k]
    return whole


class Grid:
    """The cells of a wish, and for each of them the sets of those that may stand behind it and ahead of it."""

    def __init__(self, wish):
        self.letters = wish.given()
        self.names = wish.cells()
        self.places = {name: k for k, name in enumerate(self.names)}
        many = len(wish.said())
        self.of_letter = [((1 << many) - 1) << (many * x) for x in range(len(self.letters))]
        nexts = [0 for _ in self.names]
        befores = [0 for _ in self.names]
        for pair in wish.pairs():
            p = self.places[pair[:2]]
            q = self.places[pair[2:]]
            nexts[p] |= 1 << q
            befores[q] |= 1 << p
        self.nexts = tuple(nexts)
        self.befores = tuple(befores)

    def covers(self, mask):
        """Whether the set has a cell for each given letter."""
        return all([mask & own != 0 for own in self.of_letter])

    def texts(self, mask):
        """The tuple of the cells in the set."""
        return tuple([self.names[k] for k in bits(mask)])

    def table_text(self, rows):
        """The tuple of strings of the table with these rows: row p is the set of the cells that stand behind p."""
        return tuple([self.names[p] + self.names[q] for p in range(len(rows)) for q in bits(rows[p])])

    def rows_behind(self, rows, x):
        """The rows for a word and the letter with index x behind it, from those for the word."""
        return tuple([union(self.nexts, row & self.of_letter[x]) for row in rows])

    def rows_ahead(self, x, rows):
        """The rows for the letter with index x and a word behind it, from those for the word."""
        return tuple([union(rows, after & self.of_letter[x]) for after in self.nexts])

    def rows_of(self, word):
        """The rows for the word."""
        rows = self.nexts
        for letter in word:
            rows = self.rows_behind(rows, self.letters.index(letter))
        return rows
