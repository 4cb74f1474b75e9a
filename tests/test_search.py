"""The search for options that go together, and for the tree that bars them, beside a search through all of them."""

import unittest
from itertools import product
from random import Random

from nearwish.search import Solved


class Things:
    """Things with options, of which some pairs do not go together."""

    def __init__(self, chance, many, most, share):
        self.options = [list(range(chance.randrange(1, most + 1))) for _ in range(many)]
        self.barred = set()
        for one in range(many):
            for other in range(one, many):
                for a, b in product(self.options[one], self.options[other]):
                    if (one != other or a == b) and chance.random() < share * (0.3 if one == other else 1):
                        self.barred.add((one, a, other, b))

    def clash(self, one, a, other, b):
        one, a, other, b = min((one, a, other, b), (other, b, one, a))
        return ("bare", one, a, other, b) if (one, a, other, b) in self.barred else None

    def place(self, thing, branches):
        return "try", thing, branches

    def goes(self, row):
        there = list(enumerate(row))
        return all(self.clash(one, a, other, b) is None for one, a in there for other, b in there)

    def holds(self, tree, taken):
        """Whether the tree tells that there is nothing below what is taken."""
        if tree[0] == "bare":
            _, one, a, other, b = tree
            return taken.get(one) == a and taken.get(other) == b and (one, a, other, b) in self.barred
        _, thing, branches = tree
        if thing in taken or len(branches) != len(self.options[thing]):
            return False
        return all(self.holds(branch, {**taken, thing: option}) for option, branch in enumerate(branches))


class Search(unittest.TestCase):

    def test_beside_all_rows(self):
        chance = Random(1)
        seen = {True: 0, False: 0}
        for _ in range(1500):
            things = Things(chance, chance.randrange(1, 7), 4, chance.choice([0.2, 0.35, 0.5, 0.7]))
            solved = Solved(things)
            there = any(things.goes(row) for row in product(*things.options))
            seen[there] += 1
            self.assertIs(solved.fixed is not None, there)
            if there:
                self.assertTrue(things.goes(solved.fixed))
            else:
                self.assertTrue(things.holds(solved.tree(), {}))
        self.assertGreater(min(seen.values()), 300)

    def test_many_things(self):
        """What has too many rows to look through all of them: the trees hold, and are not large."""
        chance = Random(2)
        for _ in range(60):
            things = Things(chance, 30, 8, 0.45)
            solved = Solved(things)
            if solved.fixed is not None:
                self.assertTrue(things.goes(solved.fixed))
            else:
                self.assertTrue(things.holds(solved.tree(), {}))

    def test_trees_are_new(self):
        things = Things(Random(5), 4, 3, 0.9)
        solved = Solved(things)
        self.assertIs(solved.fixed, None)
        solved.tree()[2].clear()
        self.assertTrue(things.holds(solved.tree(), {}))


if __name__ == "__main__":
    unittest.main()
