"""All tables of a wish, by their indexes in the order of their first words."""

from nearwish.errors import NoTable, TooMany
from nearwish.grids import Grid, bits

MOST_TABLES = 200


class AllTables:
    """All tables of a wish, how they follow from each other, and which of them are long."""

    def __init__(self, wish):
        self.grid = Grid(wish)
        self.words = [""]
        self.rows = [self.grid.nexts]
        self.steps = []
        self._at = {self.grid.nexts: 0}
        # The words come in order: a first word without its last letter is a first word, too.
        while len(self.steps) < len(self.rows):
            self.steps.append([self._step(len(self.steps), x) for x in range(len(self.grid.letters))])
        self.fronts = [[self._at[self.grid.rows_ahead(x, rows)] for x in range(len(self.grid.letters))]
                       for rows in self.rows]
        self.tuples = [self.grid.table_text(rows) for rows in self.rows]
        self._numbers = {strings: k for k, strings in enumerate(self.tuples)}
        self._find_layers()
        self._columns = {}

    def _step(self, k, x):
        """The index of the table of the word k and the letter x behind it, which may be a new one."""
        rows = self.grid.rows_behind(self.rows[k], x)
        if rows not in self._at:
            if len(self.rows) == MOST_TABLES:
                raise TooMany(MOST_TABLES)
            self._at[rows] = len(self.rows)
            self.rows.append(rows)
            self.words.append(self.words[k] + self.grid.letters[x])
        return self._at[rows]

    def _find_layers(self):
        """Finds the sets of the tables of all words of 0, 1, 2, .. letters until one comes again."""
        seen = {}
        self._layers = []
        layer = (0,)
        while layer not in seen:
            seen[layer] = len(self._layers)
            self._layers.append(layer)
            layer = tuple(sorted({after for k in layer for after in self.steps[k]}))
        self.m = seen[layer]
        self.p = len(self._layers) - self.m
        self.longs = sorted({k for row in self._layers[self.m:] for k in row})

    def layer(self, many):
        """The tuple of the tables of all words with so many letters."""
        if many < self.m:
            return self._layers[many]
        return self._layers[self.m + (many - self.m) % self.p]

    def number(self, value):
        """The index of the table, or None if the value is not a table of the wish."""
        # Only tuples of strings are looked up, as other values may be of a kind that no dict takes.
        if not isinstance(value, tuple) or not all([isinstance(part, str) for part in value]):
            return None
        return self._numbers.get(value)

    def need(self, value):
        """The index of the table; NoTable if it is not a table of the wish."""
        found = self.number(value)
        if found is None:
            raise NoTable()
        return found

    def follow(self, k, word):
        """The table of a word with the table k, and `word` behind it."""
        now = k
        for letter in word:
            now = self.steps[now][self.grid.letters.index(letter)]
        return now

    def lead(self, word, k):
        """The table of `word`, and a word with the table k behind it."""
        now = k
        for letter in reversed(word):
            now = self.fronts[now][self.grid.letters.index(letter)]
        return now

    def has(self, k, p, q):
        """Whether the cells with the indexes p and q stand in the table k."""
        return self.rows[k][p] >> q & 1 == 1

    def column(self, k, q):
        """The set of the cells that stand ahead of the cell q in the table k."""
        if (k, q) not in self._columns:
            self._columns[(k, q)] = sum([1 << p for p in range(len(self.rows[k])) if self.has(k, p, q)])
        return self._columns[(k, q)]

    def closes(self, k, x):
        """Whether the ring of the letter with index x and a word with the table k has a right answer."""
        return any([self.has(k, c, c) for c in bits(self.grid.of_letter[x])])

    def first_word(self, many, wanted):
        """The first word with so many letters whose table is wanted by the list of flags, or None."""
        goals = [wanted]
        for _ in range(many):
            goals.append([any([goals[-1][after] for after in afters]) for afters in self.steps])
        now = 0
        if not goals[many][now]:
            return None
        word = ""
        for left in reversed(range(many)):
            x = [goals[left][after] for after in self.steps[now]].index(True)
            word += self.grid.letters[x]
            now = self.steps[now][x]
        return word


def all_tables(wish):
    """All tables of the wish; TooMany if there are more than 200."""
    if wish.kept("tables") is None:
        wish.keep("tables", AllTables(wish))
    return wish.kept("tables")
