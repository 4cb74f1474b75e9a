"""What the document's own words say of tables, books and trees, told slowly and without the package's helpers."""

from itertools import product

from kinds import answers


def cells_of(wish):
    return [x + s for x in wish.given() for s in wish.said()]


def word_key(wish, word):
    """Words in the order of the document: by their lengths, then by the letters in the order of the wish."""
    return len(word), [wish.given().index(letter) for letter in word]


def all_words(wish, least, most):
    return ["".join(row) for many in range(least, most + 1) for row in product(wish.given(), repeat=many)]


def in_order(wish, found):
    """A table's strings as a tuple, by their first cells, then by their second ones."""
    cells = cells_of(wish)
    return tuple(p + q for p in cells for q in cells if (p, q) in found)


def slow_table(wish, word):
    """The table of the word, by all answers to it, one by one."""
    pairs = set(wish.pairs())
    found = set()
    for answer in answers(word, wish.said()):
        middle = [x + s for x, s in zip(word, answer)]
        for p in cells_of(wish):
            for q in cells_of(wish):
                row = [p] + middle + [q]
                if all(c + d in pairs for c, d in zip(row, row[1:])):
                    found.add((p, q))
    return in_order(wish, found)


def next_table(wish, strings, letter):
    """The table of a word with this table and the letter behind it."""
    cells = [letter + s for s in wish.said()]
    pairs = set(wish.pairs())
    behind = {c: [q for q in cells_of(wish) if c + q in pairs] for c in cells}
    found = {(pc[:2], q) for pc in strings if pc[2:] in behind for q in behind[pc[2:]]}
    return in_order(wish, found)


def table_of(wish, word):
    """The table of the word, letter by letter."""
    strings = tuple(wish.pairs())
    for letter in word:
        strings = next_table(wish, strings, letter)
    return strings


class Sets:
    """The sets of the tables of all words with 0, 1, 2, .. letters, with the first word of each table."""

    def __init__(self, wish):
        self.wish = wish
        self.steps = {}
        self.firsts = {}
        self.sets = [{tuple(wish.pairs())}]
        word_of = {tuple(wish.pairs()): ""}
        while self.sets[-1] not in self.sets[:-1]:
            for strings, word in word_of.items():
                self.firsts.setdefault(strings, word)
            after = {}
            for strings, word in sorted(word_of.items(), key=lambda item: word_key(wish, item[1])):
                for letter in wish.given():
                    after.setdefault(self.step(strings, letter), word + letter)
            word_of = after
            self.sets.append(set(after))
        self.m = self.sets.index(self.sets[-1])
        self.p = len(self.sets) - 1 - self.m
        self.longs = set().union(*self.sets[self.m:])

    def step(self, strings, letter):
        if (strings, letter) not in self.steps:
            self.steps[strings, letter] = next_table(self.wish, strings, letter)
        return self.steps[strings, letter]

    def tables(self):
        """The list of the pairs (first word, table), in the order of the words."""
        return sorted(((word, strings) for strings, word in self.firsts.items()),
                      key=lambda item: word_key(self.wish, item[0]))


def tame(wishes):
    """Those that have no more than 200 tables."""
    return [wish for wish in wishes if len(Sets(wish).firsts) <= 200]


def sides(cells):
    """All sets of cells, as ordered tuples."""
    return [tuple(c for k, c in enumerate(cells) if mask >> k & 1) for mask in range(1 << len(cells))]


def is_rectangle(wish, strings, lefts, rights):
    for side in (lefts, rights):
        if {c[0] for c in side} != set(wish.given()):
            return False
    return all(p + q in strings for p in lefts for q in rights)


def greatest_rectangles(wish, strings):
    """The greatest rectangles, by a search over all pairs of sets of cells."""
    cells = cells_of(wish)
    there = set(strings)
    found = []
    for lefts in sides(cells):
        # For these lefts the rights that cannot be made greater are told: what all of them go with.
        rights = tuple(q for q in cells if all(p + q in there for p in lefts))
        if not is_rectangle(wish, there, lefts, rights):
            continue
        if any(is_rectangle(wish, there, lefts + (p,), rights) for p in cells if p not in lefts):
            continue
        found.append((lefts, rights))
    return sorted(found, key=lambda both: [cells.index(c) for c in both[0]])


def ordered_cells(wish, side):
    cells = cells_of(wish)
    places = [cells.index(c) for c in side]
    return places == sorted(set(places)) and len(side) > 0


def meeting(first, second, x):
    """The cells with the letter x in the rights of the first and in the lefts of the second rectangle."""
    return [c for c in first[1] if c in second[0] and c[0] == x]


def is_book(wish, longs, book):
    """Whether it is a book, by the words of [12]."""
    if not isinstance(book, dict) or set(book) != set(longs):
        return False
    for strings, rectangle in book.items():
        if not isinstance(rectangle, tuple) or len(rectangle) != 2:
            return False
        if not all(isinstance(side, tuple) and ordered_cells(wish, side) for side in rectangle):
            return False
        if not is_rectangle(wish, set(strings), *rectangle):
            return False
    return all(meeting(book[one], book[other], x) for one in longs for other in longs for x in wish.given())


class Runs:
    """Short words, run cells, and the tables that end and begin with them, by the words of [13]."""

    def __init__(self, sets):
        self.sets = sets
        self.wish = sets.wish
        self.tables = [strings for _, strings in sets.tables()]
        self.shorts = [word for word in all_words(self.wish, 1, sets.m) if self.is_short(word)]
        self.endings = {}
        self.beginnings = {}

    def is_short(self, word):
        key = word_key(self.wish, word)
        return all(key < word_key(self.wish, word[k:] + word[:k]) for k in range(1, len(word)))

    def behind(self, strings, word):
        for letter in word:
            strings = self.sets.step(strings, letter)
        return strings

    def run_cells(self, word):
        strings = self.behind(tuple(self.wish.pairs()), word[1:])
        return [word[0] + s for s in self.wish.said() if (word[0] + s) * 2 in strings]

    def ending(self, word):
        """More copies never give more tables; so many copies as there are tables are enough."""
        if word not in self.endings:
            now = set(self.tables)
            for _ in self.tables:
                now = {self.behind(strings, word) for strings in now}
            self.endings[word] = [strings for strings in self.tables if strings in now]
        return self.endings[word]

    def beginning(self, word):
        """All tables of words that begin with word[1:] and then the word again and again: so many copies, then on."""
        if word not in self.beginnings:
            self.beginnings[word] = self.begun_by(word)
        return self.beginnings[word]

    def begun_by(self, word):
        begun = self.behind(tuple(self.wish.pairs()), word[1:] + word * len(self.tables))
        reached = {begun}
        waiting = [begun]
        while waiting:
            strings = waiting.pop()
            for letter in self.wish.given():
                after = self.sets.step(strings, letter)
                if after not in reached:
                    reached.add(after)
                    waiting.append(after)
        return [strings for strings in self.tables if strings in reached]


def end_cells(wish, rectangle, x, strings, cell):
    """The cells for the first condition of a nameless book."""
    return [c for c in rectangle[1] if c[0] == x and c + cell in strings]


def begin_cells(wish, rectangle, x, strings, cell):
    """The cells for the second condition of a nameless book."""
    return [c for c in rectangle[0] if c[0] == x and cell + c in strings]


def is_nameless_book(runs, longs, thing):
    """Whether it is a nameless book, by the words of [13]."""
    wish = runs.wish
    if not isinstance(thing, tuple) or len(thing) != 2 or not is_book(wish, longs, thing[0]):
        return False
    book, cells = thing
    if set(cells) != set(runs.shorts) or any(cells[u] not in runs.run_cells(u) for u in cells):
        return False
    for u in runs.shorts:
        for one in longs:
            for x in wish.given():
                if not all(end_cells(wish, book[one], x, strings, cells[u]) for strings in runs.ending(u)):
                    return False
                if not all(begin_cells(wish, book[one], x, strings, cells[u]) for strings in runs.beginning(u)):
                    return False
    return all(cells[u] + cells[v] in strings for u in runs.shorts for v in runs.shorts
               for strings in runs.beginning(u) if strings in runs.ending(v))


class Tree:
    """Whether something is a tree of [12], or, with `runs`, a nameless tree of [13]."""

    def __init__(self, wish, longs, rectangles, runs=None):
        self.wish = wish
        self.longs = longs
        self.rectangles = rectangles
        self.runs = runs

    def holds(self, tree, taken=()):
        """`taken` has the tuples (thing, option) of what is tried above."""
        told = dict(taken)
        kind = tree[0]
        if kind in ("try", "run"):
            return self.branches_hold(tree, taken)
        if kind == "bare":
            _, one, other, x = tree
            return one in told and other in told and not meeting(told[one], told[other], x)
        if kind == "end":
            _, one, x, strings, u = tree
            return (one in told and u in told and strings in self.runs.ending(u)
                    and not end_cells(self.wish, told[one], x, strings, told[u]))
        if kind == "begin":
            _, u, strings, x, one = tree
            return (one in told and u in told and strings in self.runs.beginning(u)
                    and not begin_cells(self.wish, told[one], x, strings, told[u]))
        _, u, strings, v = tree
        return (kind == "lead" and u in told and v in told and strings in self.runs.beginning(u)
                and strings in self.runs.ending(v) and told[u] + told[v] not in strings)

    def branches_hold(self, tree, taken):
        kind, thing, branches = tree
        if thing in dict(taken) or not isinstance(branches, list):
            return False
        if kind == "try":
            options = self.rectangles[thing] if thing in self.longs else None
        else:
            options = self.runs.run_cells(thing) if self.runs and thing in self.runs.shorts else None
        if options is None or len(options) != len(branches):
            return False
        return all(self.holds(branch, taken + ((thing, option),)) for branch, option in zip(branches, options))
