"""What a book has to fix: an option for each long table, a rectangle, and one for each short word, a run cell.

The things to fix are numbered: the long tables in their order, then the short words in theirs. A place in a tree
is told by the tuples of the document.
"""


class Puzzle:
    """The things to fix, the options of each, and which options of two things do not go together."""

    def __init__(self, known, rectangles, runs):
        self.known = known
        self.runs = runs
        self.many_longs = len(known.longs)
        self.options = rectangles + [run.choices for run in runs]
        self._long_numbers = {k: thing for thing, k in enumerate(known.longs)}
        self._short_numbers = {run.word: self.many_longs + j for j, run in enumerate(runs)}
        self._clashes = {}

    def long_thing(self, value):
        """The number of the thing that is this long table, or None."""
        k = self.known.number(value)
        return None if k is None else self._long_numbers.get(k)

    def short_thing(self, value):
        """The number of the thing that is this short word, or None."""
        return self._short_numbers.get(value) if isinstance(value, str) else None

    def letter_number(self, value):
        """The index of the given letter, or None."""
        letters = self.known.grid.letters
        if not isinstance(value, str) or len(value) != 1 or value not in letters:
            return None
        return letters.index(value)

    def text(self, thing):
        """The long table or the short word itself."""
        if thing < self.many_longs:
            return self.known.tuples[self.known.longs[thing]]
        return self.runs[thing - self.many_longs].word

    def place(self, thing, branches):
        """The place of a tree where the thing is tried."""
        kind = "try" if thing < self.many_longs else "run"
        return kind, self.text(thing), branches

    def no_meeting(self, one, a, other, b, x):
        """Whether no cell with the letter is in the rights of the option a of `one` and the lefts of b of `other`."""
        return self.options[one][a][1] & self.options[other][b][0] & self.known.grid.of_letter[x] == 0

    def no_end(self, one, a, x, k, short, b):
        """Whether no cell with the letter in the rights of `one` goes with the run cell behind it in the table k."""
        column = self.known.column(k, self.options[short][b])
        return self.options[one][a][1] & column & self.known.grid.of_letter[x] == 0

    def no_begin(self, one, a, x, k, short, b):
        """Whether no cell with the letter in the lefts of `one` goes with the run cell ahead of it in the table k."""
        row = self.known.rows[k][self.options[short][b]]
        return self.options[one][a][0] & row & self.known.grid.of_letter[x] == 0

    def no_lead(self, one, a, k, other, b):
        """Whether the run cells of the two short words do not go together in the table k."""
        return not self.known.has(k, self.options[one][a], self.options[other][b])

    def ends(self, k, short):
        """Whether the table k ends with the short word that is this thing."""
        return k in self.runs[short - self.many_longs].ending

    def begins(self, k, short):
        """Whether the table k begins with the short word that is this thing."""
        return k in self.runs[short - self.many_longs].beginning

    def clash(self, one, a, other, b):
        """The place of a tree that tells why these options of two things do not go together, or None if they do."""
        if one > other:
            return self.clash(other, b, one, a)
        if (one, a, other, b) not in self._clashes:
            self._clashes[(one, a, other, b)] = self._found_clash(one, a, other, b)
        return self._clashes[(one, a, other, b)]

    def _found_clash(self, one, a, other, b):
        """As `clash`, for two things in their order."""
        if other < self.many_longs:
            return self._bare(one, a, other, b) or self._bare(other, b, one, a)
        if one < self.many_longs:
            return self._end(one, a, other, b) or self._begin(one, a, other, b)
        return self._lead(one, a, other, b) or self._lead(other, b, one, a)

    def _bare(self, one, a, other, b):
        for x, letter in enumerate(self.known.grid.letters):
            if self.no_meeting(one, a, other, b, x):
                return "bare", self.text(one), self.text(other), letter
        return None

    def _end(self, one, a, short, b):
        run = self.runs[short - self.many_longs]
        for k in run.ending:
            for x, letter in enumerate(self.known.grid.letters):
                if self.no_end(one, a, x, k, short, b):
                    return "end", self.text(one), letter, self.known.tuples[k], run.word
        return None

    def _begin(self, one, a, short, b):
        run = self.runs[short - self.many_longs]
        for k in run.beginning:
            for x, letter in enumerate(self.known.grid.letters):
                if self.no_begin(one, a, x, k, short, b):
                    return "begin", run.word, self.known.tuples[k], letter, self.text(one)
        return None

    def _lead(self, one, a, other, b):
        for k in self.runs[one - self.many_longs].beginning:
            if self.ends(k, other) and self.no_lead(one, a, k, other, b):
                return "lead", self.text(one), self.known.tuples[k], self.text(other)
        return None
