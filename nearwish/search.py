"""Options that all go together, or a tree that tells that there are none."""

from nearwish.alltables import all_tables
from nearwish.puzzles import Puzzle
from nearwish.rectangles import long_rectangles
from nearwish.shortwords import Run, all_shorts


class Solved:
    """A puzzle with the list of the option of each thing, or with a tree: the other one is None."""

    def __init__(self, puzzle):
        self.puzzle = puzzle
        fits = [[a for a in range(len(options)) if puzzle.clash(thing, a, thing, a) is None]
                for thing, options in enumerate(puzzle.options)]
        self.fixed, self._tree, _ = _search(puzzle, {}, fits)

    def tree(self):
        """The tree, with new lists."""
        return _copied(self._tree)

    def book(self):
        """The book: the dict from the long tables to their rectangles."""
        grid = self.puzzle.known.grid
        found = {}
        for thing in range(self.puzzle.many_longs):
            lefts, rights = self.puzzle.options[thing][self.fixed[thing]]
            found[self.puzzle.text(thing)] = (grid.texts(lefts), grid.texts(rights))
        return found

    def rectangles(self):
        """The dict from the indexes of the long tables to their rectangles, as sets of cells."""
        return {k: self.puzzle.options[thing][self.fixed[thing]] for thing, k in enumerate(self.puzzle.known.longs)}

    def run_cells(self):
        """The dict from the short words to the indexes of their run cells."""
        many = self.puzzle.many_longs
        return {run.word: run.choices[self.fixed[many + j]] for j, run in enumerate(self.puzzle.runs)}


def _copied(tree):
    if tree[0] in ("try", "run"):
        return tree[0], tree[1], [_copied(branch) for branch in tree[2]]
    return tree


def _search(puzzle, taken, fits):
    """The options of all things or None, a tree below the taken options or None, and the things that it leans on.

    `taken` is the dict from the things that are fixed to their options, `fits` the list of the options of each
    thing that go with these. The things that a tree leans on are the bits of an integer.
    """
    left = [thing for thing in range(len(fits)) if thing not in taken]
    if left == []:
        return [taken[thing] for thing in range(len(fits))], None, 0
    # The fewest options first: so most branches end at once.
    thing = min(left, key=lambda other: len(fits[other]))
    branches = []
    leans = 0
    for option in range(len(puzzle.options[thing])):
        if option in fits[thing]:
            more_taken = {**taken, thing: option}
            fixed, tree, more = _search(puzzle, more_taken, _narrowed(puzzle, fits, thing, option))
        else:
            fixed = None
            tree, more = _end_place(puzzle, taken, thing, option)
        if fixed is not None:
            return fixed, None, 0
        # A tree that does not lean on this option bars all the other ones, too.
        if more >> thing & 1 == 0:
            return None, tree, more
        branches.append(tree)
        leans |= more
    return None, puzzle.place(thing, branches), leans & ~(1 << thing)


def _narrowed(puzzle, fits, thing, option):
    """Of each other thing the options that go with this one, too."""
    return [[b for b in some if other == thing or puzzle.clash(thing, option, other, b) is None]
            for other, some in enumerate(fits)]


def _end_place(puzzle, taken, thing, option):
    """The place that tells why an option does not go with what is taken, and the things that it leans on."""
    place = puzzle.clash(thing, option, thing, option)
    if place is not None:
        return place, 1 << thing
    for other, b in taken.items():
        place = puzzle.clash(thing, option, other, b)
        if place is not None:
            return place, 1 << thing | 1 << other
    return None, 0


def near_puzzle(wish):
    """What a book of the wish has to fix."""
    if wish.kept("near puzzle") is None:
        known = all_tables(wish)
        wish.keep("near puzzle", Puzzle(known, long_rectangles(known), []))
    return wish.kept("near puzzle")


def nameless_puzzle(wish):
    """What a nameless book of the wish has to fix."""
    if wish.kept("nameless puzzle") is None:
        known = all_tables(wish)
        rectangles = near_puzzle(wish).options
        runs = [Run(known, word) for word in all_shorts(known)]
        wish.keep("nameless puzzle", Puzzle(known, rectangles, runs))
    return wish.kept("nameless puzzle")


def solved_near(wish):
    """A book or a tree of the wish."""
    if wish.kept("near") is None:
        wish.keep("near", Solved(near_puzzle(wish)))
    return wish.kept("near")


def solved_nameless(wish):
    """A nameless book or a nameless tree of the wish."""
    if wish.kept("nameless") is None:
        wish.keep("nameless", Solved(nameless_puzzle(wish)))
    return wish.kept("nameless")
