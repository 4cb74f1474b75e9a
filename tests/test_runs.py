"""[13] (and [2], [3], [4] for it): short words, nameless books and nameless trees."""

import unittest
from copy import deepcopy
from itertools import product

from nearwish.books import book_fault, greatest, near, tree_fault
from nearwish.errors import NoShort, TooMany
from nearwish.runs import (beginning, ending, nameless, nameless_book_fault, nameless_tree_fault, run_cells, shorts)
from nearwish.tables import longs, start, table, tables
from nearwish.wishes import Wish

from kinds import (all_pairs, as_told, chance_wish, crowned, either, hard_to_end, just_20_longs, just_200_tables,
                   many_longs, many_shorts, nearly_nameless, nested, odd_values, one_letter, over_200_tables,
                   round_dances, some_wishes, three, turned, two, whole)
from plain import (Runs, Sets, Tree, all_words, begin_cells, end_cells, greatest_rectangles, is_nameless_book, meeting,
                   table_of, tame)


def small_wishes():
    """Those of some wishes with at most six letters to think of in a short word."""
    found = [wish for wish in tame(some_wishes()) if start(wish)[0] <= 4 and len(wish.given()) < 3]
    return found + [chance_wish(16, "abc", "XYZ", 0.65), chance_wish(82, "ab", "XY", 0.65), nearly_nameless([]),
                    nearly_nameless(["aXaW", "bWaX"]), chance_wish(120, "ab", "XY", 0.25)]


def with_books():
    return [one_letter(), Wish("ba", "YX", all_pairs("ba", "YX")), Wish("ab", "XY", ["aXaX", "aXbX", "bXaX", "bXbX"]),
            Wish("a", "XYZ", ["aXaX", "aYaZ"]), chance_wish(59, "a", "XYZW", 0.5), chance_wish(169, "abc", "XY", 0.7),
            chance_wish(71, "ab", "XYZW", 0.3), nearly_nameless(["aWbW", "bWaW"])]


def with_trees():
    return [three(), two(), whole(), Wish("a", "X", []), Wish("a", "XYZ", ["aXaY", "aYaZ", "aZaX"]),
            chance_wish(75, "abc", "XYZ", 0.7), chance_wish(198, "ab", "XYZW", 0.35), nearly_nameless([]),
            nearly_nameless(["aXaW", "bWaX"]), hard_to_end(), turned(hard_to_end())]


def is_short(wish, value):
    """By the words of [13]."""
    if not isinstance(value, str) or not set(value) <= set(wish.given()) or not 1 <= len(value) <= start(wish)[0]:
        return False
    key = [wish.given().index(letter) for letter in value]
    return all(key < key[k:] + key[:k] for k in range(1, len(key)))


class Shorts(unittest.TestCase):

    def test_beside_all_words(self):
        many = set()
        for wish in small_wishes() + with_books() + with_trees() + [chance_wish(28, "ab", "XY", 0.2)]:
            self.assertEqual(shorts(wish), Runs(Sets(wish)).shorts)
            many.add(len(shorts(wish)))
        self.assertIn(0, many)
        self.assertIn(1, many)
        self.assertIn(23, many)

    def test_told_ones(self):
        self.assertEqual(shorts(two()), [])
        self.assertEqual(shorts(three()), ["a"])
        self.assertEqual(shorts(whole()), ["a", "c"])
        wish = chance_wish(9, "ba", "XYZW", 0.4)
        self.assertEqual(shorts(wish), [word for word in all_words(wish, 1, start(wish)[0]) if is_short(wish, word)])
        ba = Wish("ba", "XYZW", nearly_nameless([]).pairs())
        self.assertEqual(start(ba)[0], 2)
        self.assertEqual(shorts(ba), ["b", "a", "ba"])

    def test_too_many(self):
        for wish, most in [(many_shorts(), 24), (many_longs(), 24), (over_200_tables()[0], 200)]:
            with self.assertRaises(TooMany) as caught:
                shorts(wish)
            self.assertEqual(caught.exception.most, most)

    def test_new_lists(self):
        wish = three()
        shorts(wish).clear()
        self.assertEqual(shorts(wish), ["a"])


class RunCells(unittest.TestCase):

    def test_beside_the_words_of_the_document(self):
        for wish in small_wishes() + with_books() + with_trees():
            runs = Runs(Sets(wish))
            for word in shorts(wish):
                self.assertEqual(run_cells(wish, word), runs.run_cells(word))
                strings = table_of(wish, word[1:])
                cells = [c for c in wish.cells() if c[0] == word[0] and c + c in strings]
                self.assertEqual(run_cells(wish, word), cells)

    def test_ending_and_beginning(self):
        for wish in small_wishes() + with_books() + with_trees():
            runs = Runs(Sets(wish))
            for word in shorts(wish):
                self.assertEqual(ending(wish, word), runs.ending(word))
                self.assertEqual(beginning(wish, word), runs.beginning(word))

    def test_word_by_word(self):
        """Beside the tables of words that are put together one by one."""
        for wish in [three(), whole(), nearly_nameless([]), chance_wish(82, "ab", "XY", 0.65),
                     Wish("ba", "XYZW", nearly_nameless(["aXaW", "bWaX"]).pairs())]:
            there = tables(wish)
            for word in shorts(wish):
                ends = [{table_of(wish, other + word * n) for other, _ in there} for n in range(len(there) + 1)]
                begins = [{table_of(wish, word[1:] + word * n + other) for other, _ in there}
                          for n in range(len(there) + 1)]
                self.assertEqual(ending(wish, word), [t for _, t in there if all(t in some for some in ends)])
                self.assertEqual(beginning(wish, word), [t for _, t in there if all(t in some for some in begins)])

    def test_an_order_of_letters_that_is_not_that_of_the_alphabet(self):
        ba = Wish("ba", "ZX", ["bZbZ", "bXbX", "bZaX", "aXbZ", "aZaX"])
        self.assertIn("ba", shorts(ba))
        self.assertRaises(NoShort, run_cells, ba, "ab")
        self.assertEqual(run_cells(ba, "b"), ["bZ", "bX"])

    def test_what_is_not_short(self):
        for wish in [three(), two(), whole(), nearly_nameless([]), chance_wish(120, "ab", "XY", 0.25), many_shorts(),
                     chance_wish(16, "abc", "XYZ", 0.65)]:
            m = start(wish)[0]
            wrong = odd_values() + [""] + all_words(wish, 1, min(m + 2, 6)) + ["a" * (m + 1), "b", "ba", "A", "abab"]
            wrong += [word + " " for word in all_words(wish, 1, 1)] + [[word] for word in all_words(wish, 1, 1)]
            some = 0
            for value in wrong:
                if is_short(wish, value):
                    continue
                some += 1
                for call in (run_cells, ending, beginning):
                    self.assertRaises(NoShort, call, wish, value)
            self.assertGreater(some, 40)

    def test_many_short_words_are_let_here(self):
        wish = many_shorts()
        self.assertRaises(TooMany, shorts, wish)
        runs = Runs(Sets(wish))
        for word in ["a", "b", "ab", "aab", "aaabb"]:
            self.assertEqual(run_cells(wish, word), runs.run_cells(word))
            self.assertEqual(ending(wish, word), runs.ending(word))
            self.assertEqual(beginning(wish, word), runs.beginning(word))

    def test_many_long_tables_are_let_here(self):
        wish = many_longs()
        self.assertEqual(ending(wish, "a"), Runs(Sets(wish)).ending("a"))

    def test_too_many_tables(self):
        for value in ["a", "", None, []]:
            for call in (run_cells, ending, beginning):
                with self.assertRaises(TooMany) as caught:
                    call(over_200_tables()[0], value)
                self.assertEqual(caught.exception.most, 200)

    def test_new_lists(self):
        for call in (run_cells, ending, beginning):
            wish = nearly_nameless([])
            kept = call(wish, "a")
            call(wish, "a").clear()
            self.assertEqual(call(wish, "a"), kept)


def judge(wish):
    there = longs(wish)
    rectangles = {strings: greatest(wish, strings) for strings in there}
    return Tree(wish, there, rectangles, Runs(Sets(wish)))


def kinds_of(tree):
    found = {tree[0]}
    if tree[0] in ("try", "run"):
        found = found.union(*[kinds_of(branch) for branch in tree[2]])
    return found


class Nameless(unittest.TestCase):

    def test_books(self):
        for wish in with_books():
            answer, thing = nameless(wish)
            self.assertEqual(answer, "yes")
            self.assertTrue(is_nameless_book(Runs(Sets(wish)), longs(wish), thing))
            self.assertIs(nameless_book_fault(wish, thing), None)
            self.assertEqual(nameless_tree_fault(wish, thing), ("form", []))
            self.assertIs(book_fault(wish, thing[0]), None)

    def test_trees(self):
        seen = set()
        for wish in with_trees():
            answer, tree = nameless(wish)
            self.assertEqual(answer, "no")
            self.assertTrue(judge(wish).holds(tree))
            self.assertIs(nameless_tree_fault(wish, tree), None)
            self.assertEqual(nameless_book_fault(wish, tree), ("form",))
            seen |= kinds_of(tree)
        self.assertEqual(seen - {"begin"}, {"try", "run", "bare", "end", "lead"})

    def test_a_tree_is_a_nameless_tree(self):
        for wish in with_trees():
            answer, tree = near(wish)
            if answer == "no":
                self.assertIs(nameless_tree_fault(wish, tree), None)
                self.assertEqual(nameless(wish)[0], "no")

    def test_greatest_rectangles_are_those_of_a_search(self):
        for wish in with_trees()[:8]:
            for strings in longs(wish):
                if len(wish.cells()) <= 9:
                    self.assertEqual(greatest(wish, strings), greatest_rectangles(wish, strings))

    def test_chance_wishes(self):
        answered = {"yes": 0, "no": 0}
        for seed in range(30):
            for given, said, share in [("a", "XYZ", 0.35), ("ab", "XY", 0.7), ("ab", "XYZ", 0.6), ("abc", "XY", 0.85)]:
                wish = chance_wish(seed, given, said, share)
                try:
                    answer, thing = nameless(wish)
                except TooMany:
                    continue
                answered[answer] += 1
                if answer == "yes":
                    self.assertTrue(is_nameless_book(Runs(Sets(wish)), longs(wish), thing))
                else:
                    self.assertTrue(judge(wish).holds(thing))
        self.assertGreater(min(answered.values()), 10)

    def test_too_many(self):
        crowd = either(crowned("ab"), many_shorts())
        dances = either(crowned("a"), round_dances("a"))
        for wish, most in [(over_200_tables()[0], 200), (many_longs(), 20), (just_200_tables(), 20), (dances, 20),
                           (crowned("a"), 100), (crowd, 100), (many_shorts(), 24)]:
            for call in [lambda: nameless(wish), lambda: nameless_book_fault(wish, None),
                         lambda: nameless_tree_fault(wish, None)]:
                with self.assertRaises(TooMany) as caught:
                    call()
                self.assertEqual(caught.exception.most, most)
        # So the last ones but one had too many short words, too, and the fourth one too many rectangles.
        self.assertRaises(TooMany, shorts, crowd)
        self.assertRaises(TooMany, shorts, many_longs())
        self.assertRaises(TooMany, greatest, dances, longs(dances)[0])

    def test_equal_answers_to_equal_calls(self):
        for make in [three, one_letter, whole, hard_to_end, lambda: chance_wish(59, "a", "XYZW", 0.5)]:
            wish = make()
            first = nameless(wish)
            kept = deepcopy(first)
            self.assertEqual(nameless(make()), kept)
            if first[0] == "yes":
                first[1][0].clear()
                first[1][1].clear()
            else:
                waiting = [first[1]]
                while waiting:
                    place = waiting.pop()
                    if place[0] in ("try", "run"):
                        waiting += place[2]
                        place[2].append(None)
            self.assertEqual(nameless(wish), kept)

    def test_what_near_returned_is_not_what_nameless_returned(self):
        wish = two()
        near(wish)[1][2].clear()
        self.assertIs(nameless_tree_fault(wish, nameless(wish)[1]), None)


class NamelessBookFault(unittest.TestCase):

    def books(self):
        return [(wish, nameless(wish)[1]) for wish in with_books()]

    def test_forms(self):
        for wish, thing in self.books():
            book, cells = thing
            wrong = odd_values() + [[book, cells], (book,), (book, cells, cells), (cells,), book, cells, (book, None),
                                    (book, list(cells.items())), (book, {**cells, "": "aX"}),
                                    (book, {**cells, 0: "aX"}), (book, {**cells, ("a",): "aX"}),
                                    (book, {**cells, "a" * 59: "aX"}), (None, {**cells, "x": "aX"}),
                                    (book, nested(29, lambda value: [value]))]
            for word in cells:
                less = {other: cells[other] for other in cells if other != word}
                wrong += [(book, less), (book, {**less, word[::-1] + word: cells[word]}), (None, less)]
                for value in [None, 0, "", "a", "X", "Xa", "aXaX", [cells[word]], (cells[word],), {}, [], "qX"]:
                    wrong.append((book, {**cells, word: value}))
            for value in wrong:
                if cells == {} and isinstance(value, tuple) and value[1:] == ({},):
                    continue
                kept = deepcopy(value)
                self.assertEqual(nameless_book_fault(wish, value), ("form",), value)
                if not isinstance(value, Exception):
                    self.assertEqual(value, kept)

    def test_what_book_fault_returns(self):
        for wish, (book, cells) in self.books():
            for value in odd_values() + [{**book, "": None}]:
                self.assertEqual(nameless_book_fault(wish, (value, cells)), book_fault(wish, value))
            everything = tuple(wish.cells())
            for strings in book:
                lefts, rights = book[strings]
                for value in [(everything, everything), (lefts[:1], rights), (lefts, rights[-1:]), (lefts, ())]:
                    changed = {**book, strings: value}
                    fault = book_fault(wish, changed)
                    if fault is not None:
                        self.assertEqual(nameless_book_fault(wish, (changed, cells)), fault)
                        # Ahead of a run cell that is none.
                        for word in cells:
                            wrong = [c for c in wish.cells() if c not in run_cells(wish, word)]
                            if wrong:
                                thing = (changed, {**cells, word: wrong[0]})
                                self.assertEqual(nameless_book_fault(wish, thing), fault)

    def test_run_cells(self):
        some = 0
        for wish, (book, cells) in self.books():
            wrong = {word: [c for c in wish.cells() if c not in run_cells(wish, word)] for word in shorts(wish)}
            for word in shorts(wish):
                for cell in wrong[word]:
                    self.assertEqual(nameless_book_fault(wish, (book, {**cells, word: cell})), ("run", word))
                    some += 1
            both = [word for word in shorts(wish) if wrong[word]]
            changed = {**cells, **{word: wrong[word][0] for word in both}}
            if both:
                self.assertEqual(nameless_book_fault(wish, (book, changed)), ("run", both[0]))
        self.assertGreater(some, 20)

    def expected(self, wish, book, cells):
        """The first fault of the last three kinds, by the words of [13]."""
        words, there, letters = shorts(wish), longs(wish), wish.given()
        for u in words:
            for strings, one, x in product(ending(wish, u), there, letters):
                if not end_cells(wish, book[one], x, strings, cells[u]):
                    return "end", u, strings, one, x
        for u in words:
            for strings, one, x in product(beginning(wish, u), there, letters):
                if not begin_cells(wish, book[one], x, strings, cells[u]):
                    return "begin", u, strings, one, x
        for u, v in product(words, words):
            for strings in beginning(wish, u):
                if strings in ending(wish, v) and cells[u] + cells[v] not in strings:
                    return "lead", u, v, strings
        return None

    def test_the_last_three(self):
        seen = {}
        wishes = with_books() + [nearly_nameless([]), nearly_nameless(["aXaW", "bWaX"]), hard_to_end(),
                                 turned(hard_to_end()), Wish("a", "XYZ", ["aXaX", "aXaY", "aYaZ", "aZaZ"]),
                                 chance_wish(8, "a", "XYZ", 0.3)]
        unlike = [pair for pair in all_pairs("ab", "XYZ") if pair[1] != pair[3]]
        wishes += [Wish("ab", "XYZ", unlike + more) for more in (["aXaX"], ["aXaX", "bXbX"], ["aXaX", "aYaY", "bXbX"])]
        for wish in wishes:
            answer, book = near(wish)
            if answer == "no" or any(run_cells(wish, word) == [] for word in shorts(wish)):
                continue
            options = [run_cells(wish, word) for word in shorts(wish)]
            for k, row in enumerate(product(*options)):
                if k > 200:
                    break
                cells = dict(zip(shorts(wish), row))
                fault = self.expected(wish, book, cells)
                self.assertEqual(nameless_book_fault(wish, (book, cells)), fault)
                kind = fault and fault[0]
                seen[kind] = seen.get(kind, 0) + 1
        # No "lead" comes first: where all long tables lie between the runs, the other conditions bring it about.
        self.assertEqual(set(seen), {None, "end", "begin"})

    def test_begin_and_end(self):
        # Z may stand behind X, but not ahead of it: so all goes with X, and no run of Z comes to its end.
        late = Wish("ab", "XZ", all_pairs("ab", "X") + ["aZaZ", "bXaZ", "aXaZ"])
        self.fault_is(late, {"a": "aZ"}, "begin")
        self.fault_is(turned(late), {"a": "aZ"}, "end")
        alone = Wish("ab", "XZ", all_pairs("ab", "X") + ["aZaZ"])
        self.fault_is(alone, {"a": "aZ"}, "end")

    def fault_is(self, wish, changed, kind):
        book = {strings: (("aX", "bX"), ("aX", "bX")) for strings in longs(wish)}
        cells = {**{word: word[0] + "X" for word in shorts(wish)}, **changed}
        self.assertIs(book_fault(wish, book), None)
        fault = nameless_book_fault(wish, (book, cells))
        self.assertEqual(fault, self.expected(wish, book, cells))
        self.assertEqual(fault[:2], (kind, "a"))

    def test_what_is_judged_stays_as_it_was(self):
        for wish, thing in self.books():
            before = as_told(wish)
            kept = deepcopy(thing)
            nameless_book_fault(wish, thing)
            self.assertEqual(thing, kept)
            self.assertEqual(as_told(wish), before)


def places(tree, path=()):
    """The paths of all places of a tree, a place ahead of its branches."""
    found = [list(path)]
    if tree[0] in ("try", "run"):
        for k, branch in enumerate(tree[2]):
            found += places(branch, path + (k,))
    return found


def put(tree, path, place):
    """The tree with another place behind this path."""
    if not path:
        return place
    branches = list(tree[2])
    branches[path[0]] = put(branches[path[0]], path[1:], place)
    return tree[0], tree[1], branches


class NamelessTreeFault(unittest.TestCase):

    def trees(self):
        return [(wish, nameless(wish)[1]) for wish in with_trees()]

    def test_strange_places(self):
        for wish, tree in self.trees():
            long = longs(wish)[-1]
            x = wish.given()[0]
            words = shorts(wish)
            wrong = odd_values() + [
                nested(30, lambda value: [value]), nested(30, lambda value: (value,)), [tree], (tree,),
                list(tree), ("try",), ("run",), ("run", x), ("run", "", []), ("run", "aa", []), ("run", x * 59, []),
                ("run", long, []), ("run", [x], []), ("run", None, []), ("run", {}, []), ("try", x, []),
                ("try", None, []),
                ("try", long, None), ("try", long, [None] * 101), ("try", long, (None,) * len(greatest(wish, long))),
                ("bare", long, long), ("bare", long, long, "?"), ("bare", x, long, x), ("Run", x, []),
                ("end", long, x, long), ("begin", x, long, x), ("lead", x, long), ("leaf", x), ("", x, [])]
            for u in words[:3] or [x]:
                right = [("end", long, x, long, u), ("begin", u, long, x, long), ("lead", u, long, u)]
                options = run_cells(wish, u) if words else []
                wrong += [("run", u, [None] * (len(options) + 1)), ("run", u, tuple([None] * len(options))),
                          ("run", u, None), ("run", u, {}), ("run", u, [], [])]
                wrong += [("run", u, [None] * (len(options) - 1))] if options else []
                for place in right:
                    wrong += [place + (x,), list(place)]
                    for k in range(1, len(place)):
                        for value in [None, 0, "?", "", [], {}, (), ("",), [long], (long,), ((),), list(long), x * 58]:
                            if value not in longs(wish):
                                wrong.append(place[:k] + (value,) + place[k + 1:])
                if not words:
                    wrong += right
            for value in wrong:
                for path in [[]] + places(tree)[-1:]:
                    self.assertEqual(nameless_tree_fault(wish, put(tree, path, value)), ("form", path), value)

    def test_tables_at_their_places(self):
        wish = nearly_nameless([])
        short_table = table(wish, "")
        self.assertNotIn(short_table, longs(wish))
        long = longs(wish)[0]
        self.assertEqual(nameless_tree_fault(wish, ("end", short_table, "a", long, "a")), ("form", []))
        self.assertEqual(nameless_tree_fault(wish, ("end", long, "a", short_table, "a")), ("leaf", []))
        self.assertEqual(nameless_tree_fault(wish, ("begin", "a", long, "a", short_table)), ("form", []))
        self.assertEqual(nameless_tree_fault(wish, ("begin", "a", short_table, "a", long)), ("leaf", []))
        self.assertEqual(nameless_tree_fault(wish, ("lead", "a", short_table, "a")), ("leaf", []))
        self.assertEqual(nameless_tree_fault(wish, ("lead", "a", table(three(), ""), "a")), ("form", []))
        self.assertEqual(nameless_tree_fault(wish, ("end", long, "ab", long, "a")), ("form", []))
        self.assertEqual(nameless_tree_fault(wish, ("try", short_table, [])), ("form", []))

    def test_twice(self):
        wish = hard_to_end()
        _, tree = nameless(wish)
        for path in places(tree):
            above = tree
            tried = []
            for k in path:
                tried.append(above)
                above = above[2][k]
            for kind, thing, branches in tried:
                again = (kind, thing, [None] * len(branches))
                self.assertEqual(nameless_tree_fault(wish, put(tree, path, again)), ("twice", path))
        self.assertEqual(nameless_tree_fault(wish, ("run", "a", [("run", "a", [None, None]), None])), ("twice", [0]))
        self.assertEqual(nameless_tree_fault(wish, ("run", "a", [("run", "b", [None]), None])), ("form", [0, 0]))

    def held(self, wish, tree, path):
        found = {}
        for k in path:
            kind, thing, branches = tree
            found[thing] = greatest(wish, thing)[k] if kind == "try" else run_cells(wish, thing)[k]
            tree = branches[k]
        return found

    def check_leaves(self, wish, tree, path):
        """All leaves that might stand behind the path: each is right or told as a fault."""
        held = self.held(wish, tree, path)
        there = longs(wish)[:4]
        some = [strings for _, strings in tables(wish)][:8]
        words = shorts(wish)[:4]
        right = 0
        for one, x, strings, u in product(there, wish.given(), some, words):
            known = one in held and u in held
            ends = known and strings in ending(wish, u) and not end_cells(wish, held[one], x, strings, held[u])
            begins = known and strings in beginning(wish, u) and not begin_cells(wish, held[one], x, strings, held[u])
            for place, good in [(("end", one, x, strings, u), ends), (("begin", u, strings, x, one), begins)]:
                fault = nameless_tree_fault(wish, put(tree, path, place))
                self.assertEqual(fault, None if good else ("leaf", path))
                right += good
        for u, strings, v in product(words, some, words):
            good = (u in held and v in held and strings in beginning(wish, u) and strings in ending(wish, v)
                    and held[u] + held[v] not in strings)
            fault = nameless_tree_fault(wish, put(tree, path, ("lead", u, strings, v)))
            self.assertEqual(fault, None if good else ("leaf", path))
            right += good
        for one, other, x in product(there, there, wish.given()):
            good = one in held and other in held and not meeting(held[one], held[other], x)
            fault = nameless_tree_fault(wish, put(tree, path, ("bare", one, other, x)))
            self.assertEqual(fault, None if good else ("bare", path))
        return right

    def test_leaves(self):
        right = 0
        for wish in [nearly_nameless([]), nearly_nameless(["aXaW", "bWaX"]), hard_to_end(), turned(hard_to_end()),
                     three(), whole()]:
            _, tree = nameless(wish)
            for path in places(tree):
                if not path or path != places(tree)[0]:
                    right += self.check_leaves(wish, tree, path)
        self.assertGreater(right, 20)

    def test_each_kind_of_leaf(self):
        """A tree that tries one long table and the short words "a" and "b", with leaves of each kind."""
        wish = nearly_nameless([])
        there = longs(wish)
        options = greatest(wish, there[0])
        for k in range(len(options)):
            inner = ("run", "a", [("run", "b", [None])])
            tree = ("try", there[0], [inner] * len(options))
            self.assertGreater(self.check_leaves(wish, self.finished(wish, tree, k), [k, 0, 0]), 0)

    def finished(self, wish, tree, k):
        """The tree with right leaves in its branches ahead of the branch k."""
        strings = [t for t in ending(wish, "b") if t in beginning(wish, "a")][0]
        leaf = ("lead", "a", strings, "b")
        kind, thing, branches = tree
        done = ("run", "a", [("run", "b", [leaf])])
        return kind, thing, [done] * k + branches[k:k + 1] + [done] * (len(branches) - k - 1)

    def test_the_first_place(self):
        wish = hard_to_end()
        long = longs(wish)[0]
        many = len(greatest(wish, long))
        self.assertEqual(many, 3)
        bare = ("bare", long, long, "a")
        self.assertEqual(nameless_tree_fault(wish, ("try", long, [bare, None, None])), ("bare", [0]))
        self.assertEqual(nameless_tree_fault(wish, ("try", long, [("end", long, "a", long, "a"), None, None])),
                         ("leaf", [0]))
        self.assertEqual(nameless_tree_fault(wish, ("run", "a", [("lead", "b", long, "a"), ()])), ("leaf", [0]))
        self.assertEqual(nameless_tree_fault(wish, ("run", "a", [("lead", "x", long, "a"), ()])), ("form", [0]))

    def test_without_short_words(self):
        even, odd = table(two(), ""), table(two(), "a")
        self.assertEqual(shorts(two()), [])
        for place in [("run", "a", []), ("end", even, "a", odd, "a"), ("begin", "a", even, "a", odd),
                      ("lead", "a", even, "a")]:
            self.assertEqual(nameless_tree_fault(two(), place), ("form", []))

    def test_the_other_kinds_are_no_places_of_a_tree(self):
        wish = hard_to_end()
        _, tree = nameless(wish)
        self.assertEqual(tree_fault(wish, ("run", "a", [None, None])), ("form", []))
        self.assertEqual(tree_fault(wish, ("lead", "a", longs(wish)[0], "a")), ("form", []))
        self.assertEqual(tree_fault(wish, tree)[0], "form")

    def test_no_run_cells(self):
        self.assertEqual(run_cells(three(), "a"), [])
        self.assertIs(nameless_tree_fault(three(), ("run", "a", [])), None)
        self.assertEqual(nameless_tree_fault(three(), ("run", "a", ())), ("form", []))

    def test_deep_ones(self):
        wish = three()
        long = longs(wish)[0]
        self.assertEqual(len(greatest(wish, long)), 1)
        deep = nested(28, lambda value: ("try", long, [value]))
        self.assertEqual(nameless_tree_fault(wish, deep), ("twice", [0]))
        self.assertEqual(tree_fault(wish, deep), ("twice", [0]))
        two_deep = nested(14, lambda value: ("run", "a", [("run", "b", [value]), None]))
        self.assertEqual(nameless_tree_fault(hard_to_end(), two_deep), ("twice", [0, 0]))

    def test_what_is_judged_stays_as_it_was(self):
        for wish, tree in self.trees():
            before = as_told(wish)
            kept = deepcopy(tree)
            nameless_tree_fault(wish, tree)
            self.assertEqual(tree, kept)
            for path in places(tree):
                thing = put(tree, path, ("end", [], {}, None, ((),)))
                other = deepcopy(thing)
                nameless_tree_fault(wish, thing)
                self.assertEqual(thing, other)
            self.assertEqual(as_told(wish), before)


class LastOnes(unittest.TestCase):

    def test_just_so_many_are_let(self):
        self.assertEqual(len(longs(just_20_longs())), 20)
        wish = chance_wish(28, "ab", "XY", 0.2)
        self.assertEqual(len(shorts(wish)), 23)
        for wish in [just_20_longs(), wish]:
            try:
                answer, thing = nameless(wish)
            except TooMany:
                continue
            fault = nameless_book_fault if answer == "yes" else nameless_tree_fault
            self.assertIs(fault(wish, thing), None)


if __name__ == "__main__":
    unittest.main()
