"""Finds a ring in which a program is wrong, led by a tree that tells that there is no book.

A program that is never wrong about the posts of a long table would keep to one of its greatest rectangles there: the
cells that it makes of houses ahead of a post, and of those behind it, all go together in the table. So a tree is
walked down by the rectangles to which the program kept so far. At its end stands a house that cannot keep to them:
once the program is asked about this house, a post has a cell more, and in the end one is torn.
"""

from nearwish.posts import Names, Post, most_alike


class Siege:
    """What a program was seen to do, and what follows from it.

    `stranger.says(houses)` is what the house in the middle says. A post is set beside another one with the same
    table, which has to be another row where houses have names: `copies` tells how many of them have to be alike.
    """

    def __init__(self, solved, look, stranger, copies):
        self._puzzle = solved.puzzle
        self._known = solved.puzzle.known
        self._tree = solved.tree()
        self._look = look
        self._stranger = stranger
        self._copies = copies
        self._names = Names()
        self._posts = [[] for _ in range(self._puzzle.many_longs)]
        self._runs = {}

    def ring(self):
        """The houses of a ring in which the program is wrong."""
        found = self._wrong_run()
        while found is None:
            found = self._wrong_so_far()
        return found

    def _wrong_run(self):
        """A ring of a short word again and again in which the program is wrong, or None."""
        for number, run in enumerate(self._puzzle.runs):
            # No house of a long run sees its ends.
            cell = self._cell(self._names.row(self._run_about(run.word)))
            if cell not in run.choices:
                return self._names.row(run.word * (2 * self._look + 1))
            self._runs[self._puzzle.many_longs + number] = run.choices.index(cell)
        return None

    def _run_about(self, word):
        """The letters that a house with the first letter of the word sees where the word comes again and again."""
        far = self._look
        copies = word * (2 * far + 1)
        begin = len(word) * far - far
        return copies[begin:begin + 2 * far + 1]

    def _wrong_so_far(self):
        """Walks down the tree and learns something more; a ring in which the program is wrong, or None."""
        place = self._tree
        held = {}
        while place[0] in ("try", "run"):
            if place[0] == "run":
                option = self._runs[self._puzzle.short_thing(place[1])]
            else:
                thing = self._puzzle.long_thing(place[1])
                option, posts = most_alike(self._posts[thing], self._puzzle.options[thing])
                if len(posts) < self._copies:
                    return self._new_post(thing)
                held[place[1]] = (self._puzzle.options[thing][option][1], posts)
            place = place[2][option]
        if place[0] == "bare":
            return self._at_bare(place, held)
        if place[0] == "end":
            return self._at_end(place, held)
        if place[0] == "begin":
            return self._at_begin(place, held)
        return self._at_lead(place)

    def _cell(self, houses):
        """The cell of the house in the middle."""
        letter, _ = houses[self._look]
        return self._known.grid.places[letter + self._stranger.says(houses)]

    def _first(self, houses):
        """The first houses of a row, as many as are seen from ahead of it."""
        return houses[:self._look]

    def _last(self, houses):
        """The last houses of a row, as many as are seen from behind it."""
        return houses[len(houses) - self._look:]

    def _new_post(self, thing):
        """Sets up a post, beside which houses with each letter were seen; the ring about it if it is torn."""
        k = self._known.longs[thing]
        wanted = [j == k for j in range(len(self._known.rows))]
        # So long that no house is seen from both sides.
        many = max(self._known.m, 2 * self._look)
        while k not in self._known.layer(many):
            many += 1
        post = Post(thing, self._names.row(self._known.first_word(many, wanted)))
        letters = self._known.grid.letters
        for letter in letters:
            row = self._names.row(letters[0] * self._look + letter)
            self._see_head(post, row)
            row = self._names.row(letter + letters[0] * self._look)
            self._see_tail(post, row)
        self._posts[thing].append(post)
        return post.torn(self._known)

    def _see_head(self, post, row):
        """Asks about the last house of the row, ahead of the post."""
        post.heads[self._cell(row + self._first(post.houses))] = row

    def _see_tail(self, post, row):
        """Asks about the first house of the row, behind the post."""
        post.tails[self._cell(self._last(post.houses) + row)] = row

    def _at_bare(self, place, held):
        """A house between two posts cannot keep to the rectangles of both."""
        _, one, other, letter = place
        rights, posts = held[one]
        ahead = posts[0]
        # Where posts have to be alike, the first and the last one are not the same one.
        _, posts = held[other]
        behind = posts[-1]
        between = self._names.row(letter)
        cell = self._cell(self._last(ahead.houses) + between + self._first(behind.houses))
        if rights >> cell & 1 == 0:
            ahead.tails[cell] = between + self._first(behind.houses)
            return ahead.torn(self._known)
        behind.heads[cell] = self._last(ahead.houses) + between
        return behind.torn(self._known)

    def _at_end(self, place, held):
        """A house between a post and a row that ends with a run cannot keep to the rectangle."""
        _, strings, letter, table, word = place
        _, posts = held[strings]
        post = posts[0]
        k = self._known.number(table)
        row = self._names.row(self._ending_word(k, word))
        between = self._names.row(letter)
        cell = self._cell(self._last(post.houses) + between + self._first(row))
        if not self._known.has(k, cell, self._run_cell(word)):
            return self._last(post.houses) + between + row + self._run(word)
        post.tails[cell] = between + self._first(row)
        return post.torn(self._known)

    def _at_begin(self, place, held):
        """A house between a row that begins with a run and a post cannot keep to the rectangle."""
        _, word, table, letter, strings = place
        _, posts = held[strings]
        post = posts[0]
        k = self._known.number(table)
        row = self._names.row(self._beginning_word(k, word))
        between = self._names.row(letter)
        cell = self._cell(self._last(row) + between + self._first(post.houses))
        if not self._known.has(k, self._run_cell(word), cell):
            return self._run(word) + self._names.row(word[0]) + row + between + self._first(post.houses)
        post.heads[cell] = self._last(row) + between
        return post.torn(self._known)

    def _at_lead(self, place):
        """From one run to another one, the program is wrong: their run cells do not go together."""
        _, word, table, other = place
        k = self._known.number(table)
        between = self._beginning_word(k, word) + self._again(k, other)
        return self._run(word) + self._names.row(word[0] + between) + self._run(other)

    def _run_cell(self, word):
        """The run cell to which the program keeps for a short word."""
        thing = self._puzzle.short_thing(word)
        return self._puzzle.options[thing][self._runs[thing]]

    def _run(self, word):
        """A run of the short word, longer than what is seen."""
        return self._names.row(word * (self._look + 1))

    def _ending_word(self, k, word):
        """A word with the table k that ends with a run of the short word."""
        copies = word * (self._look + 1)
        return [begun + copies for j, begun in enumerate(self._known.words) if self._known.follow(j, copies) == k][0]

    def _beginning_word(self, k, word):
        """A word with the table k that begins with a run of the short word without its first letter."""
        copies = word[1:] + word * (self._look + 1)
        return [copies + after for j, after in enumerate(self._known.words) if self._known.lead(copies, j) == k][0]

    def _again(self, k, word):
        """A run of the short word behind which the table k, which ends with the word, comes again."""
        turn = 1
        while self._known.follow(k, word * turn) != k:
            turn += 1
        return word * (turn * (self._look + 1))
