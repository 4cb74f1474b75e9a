"""The search for a ring in which a program is wrong, by trees of many shapes and for looks of many sizes."""

import unittest
from random import Random

from nearwish.books import tree_fault
from nearwish.errors import TooMany
from nearwish.levels import level
from nearwish.rings import right
from nearwish.runs import nameless_tree_fault
from nearwish.search import near_puzzle, nameless_puzzle, solved_near
from nearwish.siege import Siege
from nearwish.wishes import Wish

from kinds import chance_wish, hard_to_end, nearly_nameless, three, turned, two, whole


class Drawn:
    """A tree that tries things in a drawn order, in the place of one that was searched for."""

    def __init__(self, puzzle, chance):
        self.puzzle = puzzle
        self.chance = chance
        self.size = 0
        self.made = self.below({})

    def tree(self):
        return self.made

    def below(self, taken):
        self.size += 1
        if self.size > 3000:
            raise OverflowError()
        left = [thing for thing in range(len(self.puzzle.options)) if thing not in taken]
        if self.chance.random() < 0.8:
            self.chance.shuffle(left)
            thing = min(left, key=lambda other: len(self.open_options(taken, other)))
        else:
            thing = self.chance.choice(left)
        options = range(len(self.puzzle.options[thing]))
        return self.puzzle.place(thing, [self.branch(taken, thing, option) for option in options])

    def open_options(self, taken, thing):
        return [option for option in range(len(self.puzzle.options[thing])) if not self.clashes(taken, thing, option)]

    def clashes(self, taken, thing, option):
        found = [self.puzzle.clash(thing, option, other, b) for other, b in taken.items()]
        found.append(self.puzzle.clash(thing, option, thing, option))
        return [place for place in found if place is not None]

    def branch(self, taken, thing, option):
        clashes = self.clashes(taken, thing, option)
        return self.chance.choice(clashes) if clashes else self.below({**taken, thing: option})


class Picks:
    """A program that picks one of some letters, by what it sees in letters, and in names too if it is so told."""

    def __init__(self, look, kept, seed, named):
        self.look = look
        self.kept = kept
        self.seed = seed
        self.named = named

    def says(self, houses):
        assert len(houses) == 2 * self.look + 1
        return Random(repr((self.seed, houses if self.named else letters_of(houses)))).choice(self.kept)


class Steady(Picks):
    """A program that keeps to run cells where it sees a short word again and again."""

    def __init__(self, look, kept, seed, runs):
        super().__init__(look, kept, seed, False)
        self.runs = {}
        for word, cells in runs.items():
            begin = len(word) * look - look
            seen = (word * (2 * look + 1))[begin:begin + 2 * look + 1]
            self.runs.setdefault(seen, cells[seed % len(cells)][1])

    def says(self, houses):
        return self.runs.get(letters_of(houses)) or super().says(houses)


class Wily:
    """A program that looks into the search, and gives what tears no post as long as it can; the same for the same."""

    def __init__(self, look, said, seed):
        self.look = look
        self.said = said
        self.chance = Random(seed)
        self.given = {}
        self.siege = None

    def says(self, houses):
        key = tuple(houses)
        if key not in self.given:
            letters = self.chance.sample(self.said, len(self.said))
            tame = [letter for letter in letters if not self.tears(houses, letter)]
            self.given[key] = (tame + letters)[0]
        return self.given[key]

    def tears(self, houses, letter):
        known = self.siege._known
        cell = known.grid.places[houses[self.look][0] + letter]
        for post in [post for posts in self.siege._posts for post in posts]:
            k = known.longs[post.thing]
            if houses[:self.look] == post.houses[len(post.houses) - self.look:]:
                if any(not known.has(k, p, cell) for p in post.heads):
                    return True
            if houses[self.look + 1:] == post.houses[:self.look]:
                if any(not known.has(k, cell, q) for q in post.tails):
                    return True
        return False


def letters_of(houses):
    return "".join(letter for letter, _ in houses)


class Sieges(unittest.TestCase):

    def check(self, wish, solved, stranger, copies):
        siege = Siege(solved, stranger.look, stranger, copies)
        stranger.siege = siege
        houses = siege.ring()
        size = len(houses)
        look = stranger.look
        self.assertGreaterEqual(size, 2 * look + 1)
        if copies > 1:
            self.assertEqual(len({name for _, name in houses}), size)
        word = letters_of(houses)
        said = "".join(stranger.says([houses[j % size] for j in range(k - look, k + look + 1)]) for k in range(size))
        self.assertFalse(right(wish, word, said))

    def drawn(self, puzzle, chance):
        try:
            return Drawn(puzzle, chance)
        except OverflowError:
            return None

    def test_nameless_trees(self):
        chance = Random(1)
        leaves = set()
        for wish in marks():
            puzzle = nameless_puzzle(wish)
            cells = puzzle.known.grid.names
            runs = {run.word: [cells[c] for c in run.choices] for run in puzzle.runs if run.choices}
            for _ in range(12):
                solved = self.drawn(puzzle, chance)
                if solved is None:
                    continue
                self.assertIsNone(nameless_tree_fault(wish, solved.tree()))
                leaves |= kinds_of(solved.tree())
                for seed in range(10):
                    look = chance.choice([0, 1, 2, 3, 5, 9])
                    kept = chance.sample(wish.said(), chance.randrange(1, len(wish.said()) + 1))
                    self.check(wish, solved, Picks(look, kept, seed, False), 1)
                    self.check(wish, solved, Steady(look, kept, seed, runs), 1)
        self.assertEqual(leaves, {"try", "run", "bare", "end", "begin", "lead"})

    def test_trees(self):
        chance = Random(2)
        for wish in [two(), whole(), chance_wish(549, "ab", "XYZW", 0.3), chance_wish(1009, "ab", "XYZW", 0.4),
                     chance_wish(612, "abc", "XYZ", 0.7), chance_wish(1025, "ab", "XYZ", 0.3)]:
            puzzle = near_puzzle(wish)
            for _ in range(12):
                solved = self.drawn(puzzle, chance)
                if solved is None:
                    continue
                self.assertIsNone(tree_fault(wish, solved.tree()))
                for seed in range(8):
                    look = chance.choice([0, 1, 2, 3, 6])
                    kept = chance.sample(wish.said(), chance.randrange(1, len(wish.said()) + 1))
                    self.check(wish, solved, Picks(look, kept, seed, True), 2)
                    self.check(wish, solved, Picks(look, kept, seed, False), 2)
                    self.check(wish, solved, Picks(look, kept, seed, False), 1)


    def test_a_wily_program(self):
        chance = Random(4)
        broken = 0
        for _ in range(1500):
            wish = chance_wish(chance.randrange(10 ** 6), chance.choice(["a", "ab", "ab", "abc"]),
                               chance.choice(["XY", "XYZ", "XYZW"]), chance.choice([0.2, 0.3, 0.4, 0.5, 0.6]))
            try:
                solved = solved_near(wish)
            except TooMany:
                continue
            if solved.fixed is None:
                for look in (1, 2, 3, 6):
                    stranger = Wily(look, wish.said(), look)
                    self.check(wish, self.drawn(near_puzzle(wish), chance) or solved, stranger, 2)
                    broken += 1
        self.assertGreater(broken, 1500)


def kinds_of(tree):
    """The words at the places of the tree."""
    if tree[0] in ("try", "run"):
        return {tree[0]}.union(*[kinds_of(branch) for branch in tree[2]])
    return {tree[0]}


def marks():
    """Wishes without a nameless book."""
    found = [three(), nearly_nameless([]), nearly_nameless(["aXaW", "bWaX"]), hard_to_end(), turned(hard_to_end()),
             chance_wish(351, "ab", "XYZW", 0.4), chance_wish(679, "ab", "XYZW", 0.6), chance_wish(860, "ab", "XYZW", 0.6),
             Wish("a", "XYZ", ["aXaY", "aYaZ", "aZaX", "aYaX"])]
    chance = Random(3)
    while len(found) < 50:
        wish = chance_wish(chance.randrange(10 ** 6), chance.choice(["a", "ab"]), chance.choice(["XYZ", "XYZW"]),
                           chance.choice([0.3, 0.4, 0.5, 0.6]))
        try:
            if level(wish) == "marks":
                found += [wish, turned(wish)]
        except TooMany:
            pass
    return found


if __name__ == "__main__":
    unittest.main()
