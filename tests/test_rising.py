"""[21] (and [2], [3], [4] for it): rising names."""

import unittest
from functools import lru_cache
from itertools import combinations, permutations, product
from random import Random

from nearwish.errors import IsNear, NoGiven, NoLook, NoNumber, NoSaid, TooMany
from nearwish.rising import break_rising, rising, rising_fault, rising_program
from nearwish.wishes import Wish, wide_wish

from kinds import all_pairs, as_told, chance_wish, odd_values, one_letter, over_200_tables, three, two, whole

SAID = "ABCDEFGHIJKLMNOPQRSTUVWXYZ"


def wish_of(said, goes):
    """The wish with one given letter in which a letter goes to another one if this is told."""
    return wide_wish("a", said, ["a" + s + "a" + t for s in said for t in said if goes(said.index(s), said.index(t))])


def order(many):
    return wish_of(SAID[:many], lambda k, j: k < j)


def unlike(many):
    return wish_of(SAID[:many], lambda k, j: k != j)


def circle(many):
    return wish_of(SAID[:many], lambda k, j: (j - k) % many == 1)


def drawn(chance, many, share):
    return wish_of(SAID[-many:], lambda k, j: k != j and chance.random() < share)


def some_wishes():
    chance = Random(1)
    found = [two(), three(), one_letter(), Wish("a", "X", []), Wish("z", "YX", ["zXzY"]), order(3), order(4), order(7),
             unlike(2), unlike(4), circle(3), circle(4), circle(5), Wish("a", "XYZ", ["aXaY", "aYaZ", "aZaX", "aYaX"]),
             Wish("a", "XYZ", three().pairs() + ["aYaY"])]
    for many in (2, 3, 3, 3, 4, 4, 4, 5, 6):
        for share in (0.2, 0.4, 0.6, 0.8):
            found.append(drawn(chance, many, share))
    return found


class Levels:
    """The levels of things of a wish, by the words of [21]: lists of dicts from each thing to those it goes to."""

    def __init__(self, wish, look, most):
        pairs = set(wish.pairs())
        x = wish.given()
        self.levels = [{s: frozenset(t for t in wish.said() if x + s + x + t in pairs) for s in wish.said()}]
        self.too_many = len(wish.said()) > most
        while len(self.levels) <= look and not self.too_many:
            self.levels.append(self.above(self.levels[-1], most))

    def above(self, goes, most):
        things = {}
        # Sets B that some set of things has in common: so all of them come up, one more thing at a time.
        rights = {frozenset(goes)}
        waiting = [frozenset(goes)]
        while waiting:
            one = waiting.pop()
            for row in goes.values():
                if one & row not in rights:
                    rights.add(one & row)
                    waiting.append(one & row)
            if len(rights) > most:
                self.too_many = True
                return {}
        for right in rights:
            left = frozenset(s for s in goes if right <= goes[s])
            assert right == frozenset(t for t in goes if all(t in goes[s] for s in left))
            things[left, right] = None
        return {(left, right): frozenset(other for other in things if right & other[0]) for left, right in things}

    def longest(self, look):
        """The greatest number of things of a row, or None if there are rows of each length."""
        goes = self.levels[look]
        if any(thing in row for thing, row in goes.items()):
            return None

        @lru_cache(maxsize=None)
        def most(some):
            found = 0
            for thing in sorted(some, key=lambda one: -len(goes[one] & some)):
                if found == len(some):
                    break
                found = max(found, 1 + most(some & goes[thing]))
            return found

        return most(frozenset(goes))


def searched(wish, look, bound):
    """Whether there is a rising program, by a search letter by letter, or None if it takes too long."""
    names = list(combinations(range(bound), look + 1))
    pairs = set(wish.pairs())
    x = wish.given()
    at = {t: k for k, t in enumerate(names)}
    links = [[] for _ in names]
    for t in combinations(range(bound), look + 2):
        links[max(at[t[:-1]], at[t[1:]])].append((at[t[:-1]], at[t[1:]]))
    steps = 0

    def go_on(row):
        nonlocal steps
        steps += 1
        if steps > 4000:
            return None
        if len(row) == len(names):
            return True
        for s in wish.said():
            longer = row + [s]
            if all(x + longer[k] + x + longer[j] in pairs for k, j in links[len(row)]):
                found = go_on(longer)
                if found is not False:
                    return found
        return False

    return go_on([])


def told_fault(wish, look, bound, thing):
    """The fault, by the words of [21]."""
    names = list(combinations(range(bound), look + 1))
    if not isinstance(thing, dict) or len(thing) != len(names):
        return ("form",)
    for key, letter in thing.items():
        if key not in names or any(type(name) is not int for name in key):
            return ("form",)
        if type(letter) is not str or letter not in list(wish.said()):
            return ("form",)
    x = wish.given()
    for t in combinations(range(bound), look + 2):
        if x + thing[t[:-1]] + x + thing[t[1:]] not in wish.pairs():
            return ("pair", t)
    return None


def many_of(test, most, call, *parts):
    with test.assertRaises(TooMany) as caught:
        call(*parts)
    test.assertEqual(caught.exception.most, most)


class Rising(unittest.TestCase):

    def test_of_the_document(self):
        self.assertEqual([rising(three(), look) for look in range(3)], [3, 8, 20])

    def test_told_ones(self):
        self.assertEqual([rising(two(), look) for look in range(3)], [2, 4, 6])
        self.assertEqual([rising(Wish("a", "X", []), look) for look in range(3)], [1, 2, 3])
        self.assertEqual([rising(one_letter(), look) for look in range(3)], [None, None, None])
        self.assertEqual([rising(order(many), 0) for many in (1, 2, 5, 9)], [1, 2, 5, 9])
        self.assertEqual([rising(order(many), 1) for many in (1, 2, 5, 9)], [2, 3, 6, 10])
        self.assertEqual([rising(circle(many), 0) for many in (3, 5)], [2, 2])
        self.assertEqual([rising(unlike(4), look) for look in range(2)], [4, 16])

    def test_beside_levels_and_rows(self):
        seen = {}
        for wish in some_wishes():
            for look in range(3):
                levels = Levels(wish, look, 30)
                if levels.too_many:
                    many_of(self, 30, rising, wish, look)
                    seen[look, "many"] = True
                    continue
                found = rising(wish, look)
                self.assertEqual(found, levels.longest(look))
                seen[look, type(found)] = True
        self.assertLessEqual({(look, int) for look in range(3)} | {(look, type(None)) for look in range(3)}, set(seen))
        self.assertIn((2, "many"), seen)

    def test_many_drawn_ones(self):
        chance = Random(2)
        for _ in range(300):
            wish = drawn(chance, chance.choice([2, 3, 4, 5]), chance.choice([0.3, 0.5, 0.7, 0.9]))
            for look in range(3):
                levels = Levels(wish, look, 30)
                if not levels.too_many:
                    self.assertEqual(rising(wish, look), levels.longest(look))

    def test_all_wishes_of_four_letters(self):
        arcs = [(k, j) for k in range(4) for j in range(4) if k != j]
        for mask in range(1 << 12):
            goes = {arc for bit, arc in enumerate(arcs) if mask >> bit & 1}
            most = max(many for many in range(1, 5) for row in permutations(range(4), many)
                       if all(arc in goes for arc in combinations(row, 2)))
            wish = wish_of("ABCD", lambda k, j: (k, j) in goes)
            self.assertEqual(rising(wish, 0), most)
            self.assertEqual(rising_program(wish, 0, most + 1), None)

    def test_many_wishes_of_six_letters(self):
        chance = Random(6)
        for _ in range(2000):
            share = chance.random()
            goes = {arc for arc in product(range(6), repeat=2) if arc[0] != arc[1] and chance.random() < share}
            wish = wish_of("FEDCBA", lambda k, j: (k, j) in goes)
            self.assertEqual(rising(wish, 0), Levels(wish, 0, 30).longest(0))

    def test_rows_of_many_letters(self):
        chance = Random(3)
        for many in (8, 9, 10, 11):
            for share in (0.2, 0.5, 0.8, 0.95):
                wish = drawn(chance, many, share)
                self.assertEqual(rising(wish, 0), Levels(wish, 0, 30).longest(0))
        self.assertEqual(rising(unlike(26), 0), 26)
        self.assertEqual(rising(order(26), 0), 26)
        self.assertEqual(rising(order(26), 1), 27)

    def test_beside_a_search_for_programs(self):
        told = 0
        for wish in some_wishes()[:24]:
            for look in range(3):
                for bound in range(1, 7):
                    found = searched(wish, look, bound)
                    if found is None or Levels(wish, look, 200).too_many:
                        continue
                    self.assertEqual(rising_program(wish, look, bound) is not None, found)
                    if not Levels(wish, look, 30).too_many:
                        most = rising(wish, look)
                        self.assertEqual(most is None or bound <= most, found)
                        told += 1
        self.assertGreater(told, 250)

    def test_too_many(self):
        many_of(self, 30, rising, unlike(4), 2)
        many_of(self, 30, rising, unlike(5), 1)
        self.assertEqual(rising(unlike(5), 0), 5)
        # A level that has too many things bars the answer even where it is None.
        free = wide_wish("a", "ABCDEF", unlike(5).pairs() + ["aFaF"])
        self.assertIsNone(rising(free, 0))
        many_of(self, 30, rising, free, 1)
        # Exactly 30 things are let.
        self.assertEqual(len(Levels(order(26), 2, 300).levels[1]), 27)
        self.assertEqual(rising(order(26), 2), 28)
        self.assertEqual(len(Levels(thirty(), 1, 300).levels[1]), 30)
        self.assertEqual(rising(thirty(), 1), Levels(thirty(), 1, 300).longest(1))
        self.assertEqual(len(Levels(thirty_one(), 1, 300).levels[1]), 31)
        many_of(self, 30, rising, thirty_one(), 1)


def with_things(many):
    """A wish whose level 1 has so many things."""
    chance = Random(4)
    while True:
        wish = drawn(chance, chance.choice([5, 6, 7, 8, 9]), chance.random())
        levels = Levels(wish, 1, 300)
        if not levels.too_many and len(levels.levels[1]) == many:
            return wish


def thirty():
    return with_things(30)


def thirty_one():
    return with_things(31)


class RisingProgram(unittest.TestCase):

    def test_each_bound(self):
        seen = set()
        for wish in some_wishes():
            for look in range(3):
                levels = Levels(wish, look, 200)
                if levels.too_many:
                    many_of(self, 200, rising_program, wish, look, 1)
                    continue
                # A row of all letters is one of all sets of them, and of sets of these, so it has more than 12.
                most = 168 if wish == unlike(4) and look == 2 else levels.longest(look)
                for bound in range(1, 13):
                    found = rising_program(wish, look, bound)
                    seen.add((look, found is None))
                    if most is not None and bound > most:
                        self.assertIsNone(found)
                        continue
                    self.assertIs(type(found), dict)
                    self.assertEqual(set(found), set(combinations(range(bound), look + 1)))
                    self.assertIsNone(told_fault(wish, look, bound, found))
                    self.assertIsNone(rising_fault(wish, look, bound, found))
        self.assertEqual(len(seen), 6)

    def test_more_things_than_rising_lets(self):
        for look in (1, 2):
            wish = unlike(4) if look == 2 else unlike(5)
            many_of(self, 30, rising, wish, look)
            found = rising_program(wish, look, 12)
            self.assertIsNone(told_fault(wish, look, 12, found))

    def test_too_many(self):
        many_of(self, 200, rising_program, unlike(5), 2, 1)
        many_of(self, 200, rising_program, unlike(8), 1, 12)
        many_of(self, 200, rising_program, wide_wish("a", SAID[:9], unlike(8).pairs() + ["aIaI"]), 1, 3)

    def test_a_bound_below_the_look(self):
        for wish in (Wish("a", "X", []), three(), one_letter()):
            self.assertEqual(rising_program(wish, 2, 1), {})
            self.assertEqual(rising_program(wish, 2, 2), {})
            self.assertEqual(rising_program(wish, 1, 1), {})
            self.assertEqual(list(rising_program(wish, 0, 1)), [(0,)])

    def test_new_ones(self):
        wish = three()
        before = as_told(wish)
        for look, bound in [(0, 3), (1, 8), (2, 12)]:
            found = rising_program(wish, look, bound)
            kept = dict(found)
            found.clear()
            self.assertEqual(rising_program(wish, look, bound), kept)
            self.assertEqual(rising_program(Wish("a", "XYZ", three().pairs()[::-1]), look, bound), kept)
        self.assertEqual(as_told(wish), before)


class RisingFault(unittest.TestCase):

    def right_ones(self):
        for wish, look, bounds in [(three(), 0, (1, 2, 3)), (three(), 1, (2, 5, 8)), (three(), 2, (1, 3, 6)),
                                   (two(), 1, (1, 4)), (order(4), 1, (5,)), (one_letter(), 2, (5,))]:
            for bound in bounds:
                yield wish, look, bound, rising_program(wish, look, bound)

    def test_changed_at_each_place(self):
        seen = set()
        for wish, look, bound, program in self.right_ones():
            self.assertIsNone(rising_fault(wish, look, bound, program))
            for key in program:
                for letter in list(wish.said()) + ["a", "W", "", "XY", None, 0, True, ["X"], ("X",)]:
                    changed = {**program, key: letter}
                    kept = dict(changed)
                    fault = rising_fault(wish, look, bound, changed)
                    self.assertEqual(fault, told_fault(wish, look, bound, changed))
                    self.assertEqual(changed, kept)
                    seen.add(fault and fault[0])
                less = {other: letter for other, letter in program.items() if other != key}
                self.assertEqual(rising_fault(wish, look, bound, less), ("form",))
                letter = program[key]
                for other in self.keys_like(key, bound):
                    self.assertEqual(rising_fault(wish, look, bound, {**less, other: letter}), ("form",), other)
                    self.assertEqual(rising_fault(wish, look, bound, {**program, key + (bound,): letter}), ("form",))
        self.assertEqual(seen, {None, "form", "pair"})

    def keys_like(self, key, bound):
        """Keys that are not as told, in the place of one that is."""
        found = [key + (bound,), key[:-1], key[:-1] + (bound,), (-1,) + key[1:], key + (key[-1],), str(key), None, 0]
        found += [key[:-1] + (None,), key[:-1] + ("0",), (key,)]
        if len(key) > 1:
            found += [key[::-1], (key[0],) * len(key)]
        for k, name in enumerate(key):
            if name in (0, 1):
                found.append(key[:k] + (bool(name),) + key[k + 1:])
        return found

    def test_drawn_ones(self):
        chance = Random(5)
        for wish, look, bound, program in self.right_ones():
            for _ in range(20):
                drawn_one = {key: chance.choice(wish.said()) for key in program}
                self.assertEqual(rising_fault(wish, look, bound, drawn_one), told_fault(wish, look, bound, drawn_one))

    def test_no_dict(self):
        for wish, look, bound, program in self.right_ones():
            for value in odd_values() + [list(program), list(program.items()), tuple(program.items())]:
                if value != program:
                    self.assertEqual(rising_fault(wish, look, bound, value), ("form",))

    def test_no_names_at_all(self):
        self.assertIsNone(rising_fault(two(), 2, 2, {}))
        self.assertEqual(rising_fault(two(), 2, 2, {(0, 1, 2): "X"}), ("form",))
        self.assertEqual(rising_fault(two(), 2, 2, []), ("form",))

    def test_the_first_tuple(self):
        wish = three()
        program = {t: "X" for t in combinations(range(5), 2)}
        self.assertEqual(rising_fault(wish, 1, 5, program), ("pair", (0, 1, 2)))
        program[0, 1] = "Y"
        self.assertEqual(rising_fault(wish, 1, 5, program), ("pair", (0, 2, 3)))
        # Where a tuple is asked for twice, both are looked at.
        self.assertEqual(rising_fault(wish, 0, 3, {(0,): "X", (1,): "Y", (2,): "X"}), ("pair", (0, 2)))


def ways(wish):
    """Programs that give said letters for names."""
    said = wish.said()
    return [lambda names: said[0], lambda names: said[-1], lambda names: said[sum(names) % len(said)],
            lambda names: said[names[0] % len(said)], lambda names: said[names[-1] % len(said)],
            lambda names: said[min(names[-1] - names[0], len(said) - 1)],
            lambda names: said[min(names[0], len(said) - 1)],
            lambda names: said[sum(name * name * 7 + name for name in names) // 3 % len(said)]]


class BreakRising(unittest.TestCase):

    def check(self, wish, look, tell):
        asked = []

        def watched(*names):
            self.assertEqual(len(names), 1)
            names = names[0]
            self.assertIs(type(names), tuple)
            self.assertEqual(len(names), look + 1)
            self.assertTrue(all(type(name) is int and name >= 0 for name in names))
            self.assertEqual(list(names), sorted(set(names)))
            asked.append(names)
            return tell(names)

        found = break_rising(wish, look, watched)
        most = rising(wish, look)
        x = wish.given()
        due = []
        for t in combinations(range(most + 1), look + 2):
            due += [t[:-1], t[1:]]
            if x + tell(t[:-1]) + x + tell(t[1:]) not in wish.pairs():
                break
        self.assertEqual(found, t)
        self.assertIs(type(found), tuple)
        # What was asked, each at its first time.
        self.assertEqual(list(dict.fromkeys(asked)), list(dict.fromkeys(due)))
        return found

    def test_many_programs(self):
        seen = set()
        for wish in some_wishes():
            for look in range(3):
                if Levels(wish, look, 30).too_many or rising(wish, look) is None:
                    continue
                for tell in ways(wish):
                    seen.add(self.check(wish, look, tell))
        self.assertGreater(len(seen), 20)

    def test_a_program_that_is_right_as_long_as_can_be(self):
        for wish in some_wishes():
            for look in range(3):
                if Levels(wish, look, 30).too_many or rising(wish, look) is None or rising(wish, look) > 12:
                    continue
                most = rising(wish, look)
                program = rising_program(wish, look, most)
                found = self.check(wish, look, lambda names: program.get(names, wish.said()[0]))
                self.assertEqual(found[-1], most)

    def test_no_said(self):
        for value in odd_values() + ["W", "x", "XY", ".", ["X"], True]:
            if value not in ("X", "Y", "Z"):
                for look in range(3):
                    self.assertRaises(NoSaid, break_rising, three(), look, lambda names: value)

    def test_no_said_as_soon_as_it_is_given(self):
        wish = three()
        right_one = rising_program(wish, 1, 8)
        names = list(combinations(range(9), 2))
        for wrong in names:
            asked = []

            def tell(seen):
                asked.append(seen)
                return None if seen == wrong else right_one.get(seen, "X")

            # Ahead of the first wrong tuple, or not at all.
            due = []
            broken = None
            for t in combinations(range(9), 3):
                due += [t[:-1], t[1:]]
                if wrong in due:
                    break
                if right_one.get(t[:-1], "X") == right_one.get(t[1:], "X"):
                    broken = t
                    break
            if broken is None:
                self.assertRaises(NoSaid, break_rising, wish, 1, tell)
                self.assertEqual(asked[-1], wrong)
            else:
                self.assertEqual(break_rising(wish, 1, tell), broken)
                self.assertNotIn(wrong, asked)

    def test_no_said_ahead_of_what_is_no_pair(self):
        self.assertRaises(NoSaid, break_rising, two(), 0, lambda names: "X" if names == (0,) else None)
        self.assertEqual(break_rising(two(), 0, lambda names: "X" if names[0] < 2 else None), (0, 1))
        asked = []

        def tell(names):
            asked.append(names)
            return None

        self.assertRaises(NoSaid, break_rising, two(), 1, tell)
        self.assertEqual(asked, [(0, 1)])

    def test_is_near(self):
        for look in range(3):
            self.assertRaises(IsNear, break_rising, one_letter(), look, lambda names: None)


class WrongCalls(unittest.TestCase):

    def looks(self):
        return [value for value in odd_values() + [-1, 3, 4, True, False, None, "0", [1], (1,), {}, 10 ** 30]
                if type(value) is not int or not 0 <= value <= 2]

    def numbers(self):
        return [value for value in odd_values() + [0, 13, -1, True, None, "1", [1], (1,), {}, 10 ** 30]
                if type(value) is not int or not 1 <= value <= 12]

    def test_no_given_ahead_of_all(self):
        for wish in [whole(), Wish("ab", "X", []), Wish("abc", "X", []), over_200_tables()[0],
                     wide_wish("ab", SAID, all_pairs("ab", SAID))]:
            for look in [0, 2] + self.looks()[:12]:
                self.assertRaises(NoGiven, rising, wish, look)
                self.assertRaises(NoGiven, break_rising, wish, look, lambda names: None)
                for bound in [1, 0, None]:
                    self.assertRaises(NoGiven, rising_program, wish, look, bound)
                    self.assertRaises(NoGiven, rising_fault, wish, look, bound, None)

    def test_no_look(self):
        for wish in [three(), one_letter(), unlike(8)]:
            for look in self.looks():
                self.assertRaises(NoLook, rising, wish, look)
                self.assertRaises(NoLook, break_rising, wish, look, lambda names: None)
                for bound in [1, 0, 13, None, True]:
                    self.assertRaises(NoLook, rising_program, wish, look, bound)
                    self.assertRaises(NoLook, rising_fault, wish, look, bound, None)

    def test_no_number(self):
        for wish in [three(), one_letter(), unlike(8)]:
            for bound in self.numbers():
                for look in range(3):
                    self.assertRaises(NoNumber, rising_program, wish, look, bound)
                    self.assertRaises(NoNumber, rising_fault, wish, look, bound, {})

    def test_too_many_ahead_of_is_near(self):
        free = wide_wish("a", "ABCDEF", unlike(5).pairs() + ["aFaF"])
        many_of(self, 30, break_rising, free, 1, lambda names: None)
        many_of(self, 30, break_rising, unlike(4), 2, lambda names: None)
        self.assertRaises(IsNear, break_rising, free, 0, lambda names: None)
        # A fault is told of any number of things.
        self.assertEqual(rising_fault(unlike(8), 2, 3, {}), ("form",))
        self.assertIsNone(rising_fault(unlike(8), 2, 3, {(0, 1, 2): "A"}))

    def test_all_bounds_are_let(self):
        for bound, look in product(range(1, 13), range(3)):
            self.assertIsNotNone(rising_program(one_letter(), look, bound))


class SameCalls(unittest.TestCase):

    def test_equal_wishes(self):
        for seed in range(20):
            wish = chance_wish(seed, "a", "XYZW", 0.4)
            again = Wish("a", "XYZW", wish.pairs()[::-1])
            for look in range(3):
                try:
                    self.assertEqual(rising(wish, look), rising(again, look))
                    self.assertEqual(rising_program(again, look, 7), rising_program(wish, look, 7))
                except TooMany:
                    continue


if __name__ == "__main__":
    unittest.main()
