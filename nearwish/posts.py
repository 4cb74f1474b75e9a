"""Rows of houses by which a program is broken, and what it was seen to make of the houses next to them.

A house is a tuple of its given letter and its name, all names different.
"""


class Post:
    """A row of houses with a long table, and the cells that the houses next to it were seen to have.

    The two dicts go from cells to the houses about the one that had the cell: `heads` for the house ahead of the
    row, with all that it sees on its far side, `tails` likewise for the house behind the row.
    """

    def __init__(self, thing, houses):
        self.thing = thing
        self.houses = houses
        self.heads = {}
        self.tails = {}

    def option(self, options):
        """The index of the first rectangle with all cells that were seen: there is one, unless the post is torn."""
        heads = sum([1 << p for p in self.heads])
        tails = sum([1 << q for q in self.tails])
        return [lefts & heads == heads and rights & tails == tails for lefts, rights in options].index(True)

    def torn(self, known):
        """The houses of the row and about it if not all of them can be right, or None."""
        k = known.longs[self.thing]
        for p, head in self.heads.items():
            for q, tail in self.tails.items():
                if not known.has(k, p, q):
                    return head + self.houses + tail
        return None


class Names:
    """Gives each house a name of its own."""

    def __init__(self):
        self._next = 0

    def row(self, word):
        """The houses with these letters."""
        houses = [(letter, self._next + k) for k, letter in enumerate(word)]
        self._next += len(word)
        return houses


def most_alike(posts, options):
    """The option that most of the posts have, None without posts, and the list of the posts that have it."""
    if posts == []:
        return None, []
    groups = {}
    for post in posts:
        groups.setdefault(post.option(options), []).append(post)
    found = max(list(groups), key=lambda option: len(groups[option]))
    return found, groups[found]
