"""[11], [12] (and [2], [3], [4] for them): rectangles, books and trees."""

import unittest
from copy import deepcopy
from itertools import product

from nearwish.books import book_fault, greatest, near, tree_fault
from nearwish.errors import NoTable, TooMany
from nearwish.tables import longs, table, tables
from nearwish.wishes import Wish

from kinds import (all_pairs, as_told, chance_wish, crowned, either, just_20_longs, just_200_tables, many_longs,
                   many_shorts, nested, odd_values, one_letter, over_200_tables, round_dances, some_wishes, three,
                   two, whole)
from plain import Tree, cells_of, greatest_rectangles, is_book, meeting, tame


def dance():
    """Permutations without a kept letter."""
    return Wish("a", "XYZ", ["aXaY", "aYaZ", "aZaX"])


def with_books():
    return [three(), one_letter(), Wish("a", "XYZW", ["aXaX", "aXaY", "aYaZ", "aZaW", "aWaX"]),
            Wish("ab", "XY", ["aXaX", "aXbX", "bXaX", "bXbX", "aYbY"]), Wish("ba", "YX", all_pairs("ba", "YX")),
            chance_wish(59, "a", "XYZW", 0.5), chance_wish(73, "ab", "XYZ", 0.55), chance_wish(75, "abc", "XYZ", 0.7),
            chance_wish(169, "abc", "XY", 0.7), chance_wish(13, "ab", "XYZW", 0.35)]


def with_trees():
    return [two(), dance(), whole(), Wish("a", "X", []), Wish("zm", "QB", []), chance_wish(7, "ab", "XYZ", 0.2),
            chance_wish(1, "ab", "XYZ", 0.4), chance_wish(179, "ab", "XYZ", 0.55), chance_wish(198, "ab", "XYZW", 0.35),
            Wish("ab", "XY", ["aXaY", "aYaX", "aXbY", "aYbX", "bXaY", "bYaX", "bXbY", "bYbX"])]


def told(wish):
    """The long tables, and the greatest rectangles of each, by a search over all sets of cells."""
    there = longs(wish)
    return there, {strings: greatest_rectangles(wish, strings) for strings in there}


class Greatest(unittest.TestCase):

    def test_beside_a_search(self):
        for wish in with_books() + with_trees() + tame(some_wishes()):
            if len(wish.cells()) > 9:
                continue
            for word in ["", wish.given()[0], wish.given()[-1] * 2, (wish.given() * 5)[:5]]:
                strings = table(wish, word)
                self.assertEqual(greatest(wish, strings), greatest_rectangles(wish, strings))

    def test_all_tables_of_a_wish(self):
        for wish in [whole(), chance_wish(7, "ab", "XYZ", 0.3), chance_wish(82, "ab", "XY", 0.65)]:
            for _, strings in tables(wish):
                self.assertEqual(greatest(wish, strings), greatest_rectangles(wish, strings))

    def test_told_ones(self):
        self.assertEqual(greatest(two(), ("aXaY", "aYaX")), [(("aX",), ("aY",)), (("aY",), ("aX",))])
        self.assertEqual(greatest(Wish("a", "X", []), ()), [])
        found = greatest(three(), tuple(three().pairs()))
        self.assertEqual(found, [(("aX",), ("aY", "aZ")), (("aX", "aY"), ("aZ",)), (("aX", "aZ"), ("aY",)),
                                 (("aY",), ("aX", "aZ")), (("aY", "aZ"), ("aX",)), (("aZ",), ("aX", "aY"))])

    def test_each_given_letter_on_both_sides(self):
        wish = Wish("ab", "X", ["aXaX", "aXbX", "bXaX"])
        self.assertEqual(greatest(wish, tuple(wish.pairs())), [])
        full = Wish("ab", "X", all_pairs("ab", "X"))
        self.assertEqual(greatest(full, tuple(full.pairs())), [(("aX", "bX"), ("aX", "bX"))])

    def test_order_by_indexes(self):
        wish = Wish("ba", "YX", [pair for pair in all_pairs("ba", "YX") if pair[:2] != pair[2:]])
        found = greatest(wish, tuple(wish.pairs()))
        cells = wish.cells()
        lefts = [[cells.index(c) for c in rectangle[0]] for rectangle in found]
        self.assertEqual(lefts, sorted(lefts))
        self.assertGreater(len(lefts), 3)
        self.assertEqual(found, greatest_rectangles(wish, tuple(wish.pairs())))

    def test_no_table(self):
        wish = two()
        for value in odd_values() + [["aXaY", "aYaX"], ("aYaX", "aXaY"), tuple(three().pairs())]:
            if value not in [strings for _, strings in tables(wish)]:
                self.assertRaises(NoTable, greatest, wish, value)

    def test_too_many(self):
        wish = Wish("abc", "WXYZ", [pair for pair in all_pairs("abc", "WXYZ") if pair[:2] != pair[2:]])
        with self.assertRaises(TooMany) as caught:
            greatest(wish, tuple(wish.pairs()))
        self.assertEqual(caught.exception.most, 100)
        full = table(wish, "a")
        self.assertEqual(greatest(wish, full), [(tuple(wish.cells()), tuple(wish.cells()))])
        self.assertRaises(NoTable, greatest, wish, list(full))
        with self.assertRaises(TooMany) as caught:
            greatest(over_200_tables()[0], None)
        self.assertEqual(caught.exception.most, 200)

    def test_many_but_not_too_many(self):
        # 6 letters besides each other's: all sets of them but the empty one and the whole one.
        wish = Wish("ab", "XYZ", [pair for pair in all_pairs("ab", "XYZ") if pair[:2] != pair[2:]])
        found = greatest(wish, tuple(wish.pairs()))
        self.assertEqual(found, greatest_rectangles(wish, tuple(wish.pairs())))
        self.assertEqual(len(found), 36)

    def test_new_lists(self):
        wish = two()
        found = greatest(wish, ("aXaY", "aYaX"))
        found.clear()
        self.assertEqual(len(greatest(wish, ("aXaY", "aYaX"))), 2)


class Near(unittest.TestCase):

    def test_books(self):
        for wish in with_books():
            answer, book = near(wish)
            self.assertEqual(answer, "yes")
            self.assertTrue(is_book(wish, longs(wish), book))
            self.assertIs(book_fault(wish, book), None)
            self.assertEqual(tree_fault(wish, book), ("form", []))

    def test_trees(self):
        for wish in with_trees():
            answer, tree = near(wish)
            self.assertEqual(answer, "no")
            self.assertTrue(Tree(wish, *told(wish)).holds(tree))
            self.assertIs(tree_fault(wish, tree), None)
            self.assertEqual(book_fault(wish, tree), ("form",))

    def test_beside_a_search_over_all_books(self):
        seen = set()
        for wish in with_books() + with_trees() + tame(some_wishes()):
            if len(wish.cells()) > 9 or len(longs(wish)) > 20:
                continue
            there, rectangles = told(wish)
            many = 1
            for strings in there:
                many *= len(rectangles[strings])
            if many > 3000:
                continue
            books = [dict(zip(there, row)) for row in product(*[rectangles[strings] for strings in there])]
            found = any(all(meeting(book[one], book[other], x) for one in there for other in there
                            for x in wish.given()) for book in books)
            self.assertEqual(near(wish)[0], "yes" if found else "no")
            seen.add(found)
        self.assertEqual(seen, {True, False})

    def test_chance_wishes(self):
        for seed in range(40):
            for given, said, share in [("a", "XYZ", 0.35), ("ab", "XY", 0.6), ("ab", "XYZ", 0.5), ("abc", "XY", 0.8)]:
                wish = chance_wish(seed, given, said, share)
                if len(longs(wish)) > 20:
                    self.assertRaises(TooMany, near, wish)
                    continue
                answer, thing = near(wish)
                if answer == "yes":
                    self.assertTrue(is_book(wish, longs(wish), thing))
                else:
                    self.assertEqual(answer, "no")
                    self.assertTrue(Tree(wish, *told(wish)).holds(thing))

    def test_too_many(self):
        good = near(three())[1]
        for wish, most in [(over_200_tables()[0], 200), (many_longs(), 20), (crowned("a"), 100), (crowned("ab"), 100),
                           (just_200_tables(), 20), (either(crowned("a"), round_dances("a")), 20)]:
            for call in [lambda: near(wish), lambda: book_fault(wish, good), lambda: tree_fault(wish, None)]:
                with self.assertRaises(TooMany) as caught:
                    call()
                self.assertEqual(caught.exception.most, most)

    def test_the_last_ones_that_are_let(self):
        self.assertEqual(len(longs(just_20_longs())), 20)
        self.assertIn(near(just_20_longs())[0], ("yes", "no"))
        # What has too many short words has a book or a tree all the same.
        self.assertIn(near(many_shorts())[0], ("yes", "no"))

    def test_a_table_that_is_not_long_may_have_too_many(self):
        wish = Wish("abc", "WXYZ", [pair for pair in all_pairs("abc", "WXYZ") if pair[:2] != pair[2:]])
        self.assertEqual(near(wish), ("yes", {table(wish, "a"): (tuple(wish.cells()), tuple(wish.cells()))}))

    def test_equal_answers_to_equal_calls(self):
        for make in [three, two, whole, dance]:
            wish = make()
            first = near(wish)
            kept = deepcopy(first)
            self.assertEqual(near(make()), kept)
            if first[0] == "yes":
                first[1].clear()
            else:
                first[1][2].clear()
            self.assertEqual(near(wish), kept)
            self.assertIsNot(near(wish)[1], near(wish)[1])

    def test_lists_inside_are_new(self):
        wish = chance_wish(7, "ab", "XYZ", 0.2)
        _, tree = near(wish)
        kept = deepcopy(tree)
        waiting = [tree]
        while waiting:
            place = waiting.pop()
            if place[0] == "try":
                waiting += place[2]
                place[2].clear()
        self.assertEqual(near(wish), ("no", kept))


class BookFault(unittest.TestCase):

    def books(self):
        return [(wish, near(wish)[1]) for wish in with_books() + [just_20_longs()] if near(wish)[0] == "yes"]

    def test_no_dict(self):
        for wish, book in self.books():
            for value in odd_values() + [list(book.items()), tuple(book.items()), [book], (book,), None, wish]:
                self.assertEqual(book_fault(wish, value), ("form",))

    def test_keys(self):
        for wish, book in self.books():
            there = longs(wish)
            rectangle = book[there[0]]
            less = {strings: book[strings] for strings in there[1:]}
            self.assertEqual(book_fault(wish, less), ("form",))
            for key in ["", 0, True, None, (), ("aX",), "aXaX", ((),), tuple(reversed(there[0])) + ("aXaX",)]:
                if key not in there:
                    self.assertEqual(book_fault(wish, {**book, key: rectangle}), ("form",))
                    self.assertEqual(book_fault(wish, {**less, key: rectangle}), ("form",))

    def test_a_table_that_is_not_long(self):
        wish = three()
        _, book = near(wish)
        self.assertEqual(book_fault(wish, {**book, table(wish, ""): (("aX",), ("aY",))}), ("form",))

    def test_forms_of_rectangles(self):
        for wish, book in self.books():
            cells = wish.cells()
            for strings, (lefts, rights) in list(book.items())[:4]:
                wrong = [None, 0, "", [], (), {}, [lefts, rights], (lefts,), (lefts, rights, rights), lefts,
                         (list(lefts), rights), (lefts, list(rights)), ((), rights), (lefts, ()), ((), ()),
                         (lefts + lefts[-1:], rights), (lefts, rights[:1] + rights), ("".join(lefts), rights),
                         (lefts, rights + ("qQ",)), (("aa",) + lefts, rights), (lefts, rights + (0,)),
                         (lefts, rights + (None,)), ((lefts,), rights), (lefts, ([],)), (lefts, ({},)),
                         (lefts + ("",), rights), (lefts, nested(28, lambda value: [value]))]
                if len(lefts) > 1:
                    wrong.append((lefts[::-1], rights))
                if len(rights) > 1:
                    wrong.append((lefts, rights[1:] + rights[:1]))
                if len(cells) > 1:
                    wrong.append(((cells[1], cells[0]), rights))
                for value in wrong:
                    thing = {**book, strings: value}
                    kept = deepcopy(thing)
                    self.assertEqual(book_fault(wish, thing), ("form",), value)
                    self.assertEqual(thing, kept)

    def test_form_comes_ahead_of_the_others(self):
        wish = chance_wish(59, "a", "XYZW", 0.5)
        there = longs(wish)
        _, book = near(wish)
        self.assertEqual(len(there), 3)
        cells = tuple(wish.cells())
        strange = [p + q for p in cells for q in cells if p + q not in there[1]]
        unlike = next(pair for pair in there[0] if pair[:2] != pair[2:])
        cut = {**book, there[0]: ((unlike[:2],), (unlike[2:],))}
        self.assertEqual(book_fault(wish, cut), ("cut", there[0], there[0], "a"))
        thing = {**cut, there[1]: (cells, cells)}
        self.assertEqual(book_fault(wish, thing), ("rectangle", there[1], strange[0][:2], strange[0][2:]))
        thing[there[2]] = (("aX", "aX"), ("aX",))
        self.assertEqual(book_fault(wish, thing), ("form",))

    def test_rectangles(self):
        for wish, book in self.books():
            there = longs(wish)
            cells = tuple(wish.cells())
            for strings in there:
                thing = {**book, strings: (cells, cells)}
                strange = [(p, q) for p in cells for q in cells if p + q not in strings]
                if strange:
                    self.assertEqual(book_fault(wish, thing), ("rectangle", strings) + strange[0])
            whole_book = {strings: (cells, cells) for strings in there}
            strange = [(strings, p, q) for strings in there for p in cells for q in cells if p + q not in strings]
            if strange:
                self.assertEqual(book_fault(wish, whole_book), ("rectangle",) + strange[0])

    def test_cuts(self):
        some = 0
        for wish, book in self.books():
            there = longs(wish)
            for strings in there:
                lefts, rights = book[strings]
                for less in [(lefts[:1], rights), (lefts, rights[-1:]), (lefts[-1:], rights[:1])]:
                    thing = {**book, strings: less}
                    cuts = [(one, other, x) for one in there for other in there for x in wish.given()
                            if not meeting(thing[one], thing[other], x)]
                    self.assertEqual(book_fault(wish, thing), ("cut",) + cuts[0] if cuts else None)
                    some += len(cuts) > 0
        self.assertGreater(some, 20)

    def test_a_rectangle_need_not_be_greatest(self):
        wish = one_letter()
        self.assertIs(book_fault(wish, {("aXaX",): (("aX",), ("aX",))}), None)
        wide = Wish("a", "XY", ["aXaX", "aXaY", "aYaX", "aYaY"])
        self.assertIs(book_fault(wide, {tuple(wide.pairs()): (("aX",), ("aX", "aY"))}), None)
        self.assertEqual(book_fault(wide, {tuple(wide.pairs()): (("aX",), ("aY",))}),
                         ("cut", tuple(wide.pairs()), tuple(wide.pairs()), "a"))

    def test_told_cuts(self):
        full = tuple(all_pairs("a", "XYZ"))
        self.assertEqual(book_fault(three(), {full: (("aX",), ("aY", "aZ"))}), ("cut", full, full, "a"))
        self.assertIs(book_fault(three(), {full: (("aX",), ("aX",))}), None)
        even, odd = table(two(), ""), table(two(), "a")
        self.assertEqual(book_fault(two(), {even: (("aX",), ("aY",)), odd: (("aX",), ("aX",))}),
                         ("cut", even, even, "a"))
        self.assertEqual(book_fault(two(), {even: (("aX",), ("aX",)), odd: (("aX",), ("aX",))}),
                         ("rectangle", even, "aX", "aX"))


def places(tree, path=()):
    """The paths of all places of a tree, a place ahead of its branches."""
    found = [list(path)]
    if tree[0] in ("try", "run"):
        for k, branch in enumerate(tree[2]):
            found += places(branch, path + (k,))
    return found


def place_at(tree, path):
    for k in path:
        tree = tree[2][k]
    return tree


def put(tree, path, place):
    """The tree with another place behind this path."""
    if not path:
        return place
    branches = list(tree[2])
    branches[path[0]] = put(branches[path[0]], path[1:], place)
    return tree[0], tree[1], branches


class TreeFault(unittest.TestCase):

    def trees(self):
        return [(wish, near(wish)[1]) for wish in with_trees()]

    def test_strange_places(self):
        for wish, tree in self.trees():
            strings = longs(wish)[0]
            letter = wish.given()[0]
            many = len(greatest(wish, strings))
            wrong = odd_values() + [
                nested(30, lambda value: [value]), nested(28, lambda value: ("try", strings, [value])), [tree], (tree,),
                list(tree), ("try",), ("try", strings), ("Try", strings, [None] * many), ("try", strings, [], []),
                ("try", strings, [None] * (many + 1)), ("try", strings, (None,) * many), ("try", strings, None),
                ("try", list(strings), [None] * many), ("try", strings[:-1] + ("",), [None] * many),
                ("try", strings + strings[-1:], [None] * many), ("run", letter, []), ("bare",), ("bare", strings),
                ("bare", strings, strings), ("bare", strings, strings, "?"), ("bare", strings, strings, letter, letter),
                ("bare", strings, strings, ""), ("bare", strings, strings, letter * 2), ("bare", strings, strings, 0),
                ("bare", strings, strings, None), ("bare", strings, letter, strings), ("bare", letter, strings, letter),
                ("bare", list(strings), strings, letter), ("bare", strings, [], letter),
                ["bare", strings, strings, letter],
                ("end", strings, letter, strings, letter), ("begin", letter, strings, letter, strings),
                ("lead", letter, strings, letter), (None, strings, []), (["try"], strings, []), ((), (), ()),
                (tree[0], {}, tree[-1]), ("try", [], []), ("try", {}, []), ("try", ((),), []), near(three())[1]]
            if many > 0:
                wrong.append(("try", strings, [None] * (many - 1)))
            # Without pairs, this is a tree.
            wrong = [value for value in wrong if value != tree]
            for value in wrong:
                for path in [[]] + places(tree)[-1:]:
                    thing = put(tree, path, value)
                    self.assertEqual(tree_fault(wish, thing), ("form", path), value)

    def test_a_table_that_is_not_long(self):
        wish = Wish("a", "XYZ", ["aXaY"])
        short = table(wish, "")
        self.assertNotIn(short, longs(wish))
        self.assertEqual(tree_fault(wish, ("try", short, [])), ("form", []))
        self.assertEqual(tree_fault(wish, ("bare", short, longs(wish)[0], "a")), ("form", []))
        self.assertEqual(tree_fault(wish, ("bare", longs(wish)[0], short, "a")), ("form", []))
        self.assertIs(tree_fault(wish, ("try", longs(wish)[0], [])), None)

    def test_twice(self):
        for wish, tree in self.trees():
            for path in places(tree):
                if path and tree[0] == "try":
                    again = ("try", tree[1], [None] * len(tree[2]))
                    self.assertEqual(tree_fault(wish, put(tree, path, again)), ("twice", path))

    def test_a_table_may_be_tried_in_two_branches(self):
        even, odd = table(two(), ""), table(two(), "a")
        self.assertEqual(len(greatest(two(), even)), 2)
        inner = ("try", odd, [("bare", even, even, "a")] * len(greatest(two(), odd)))
        self.assertIs(tree_fault(two(), ("try", even, [inner, inner])), None)

    def test_bare(self):
        for wish, tree in self.trees():
            there = longs(wish)
            for path in places(tree):
                place = place_at(tree, path)
                if place[0] != "bare":
                    continue
                held = self.held(wish, tree, path)
                for one, other, x in product(there[:6], there[:6], wish.given()):
                    thing = put(tree, path, ("bare", one, other, x))
                    right = one in held and other in held and not meeting(held[one], held[other], x)
                    self.assertEqual(tree_fault(wish, thing), None if right else ("bare", path))

    def held(self, wish, tree, path):
        found = {}
        for k in path:
            found[tree[1]] = greatest(wish, tree[1])[k]
            tree = tree[2][k]
        return found

    def test_nothing_is_tried(self):
        for wish, _ in self.trees():
            strings = longs(wish)[0]
            self.assertEqual(tree_fault(wish, ("bare", strings, strings, wish.given()[0])), ("bare", []))

    def test_the_first_place(self):
        even, odd = table(two(), ""), table(two(), "a")
        bare = ("bare", even, even, "a")
        self.assertEqual(tree_fault(two(), ("try", even, [bare, None])), ("form", [1]))
        self.assertEqual(tree_fault(two(), ("try", even, [("bare", odd, odd, "a"), None])), ("bare", [0]))
        self.assertEqual(tree_fault(two(), ("try", even, [("try", even, [None, None]), None])), ("twice", [0]))
        deep = ("try", odd, [bare, ("try", odd, [None, None])])
        self.assertEqual(tree_fault(two(), ("try", even, [deep, None])), ("twice", [0, 1]))
        self.assertEqual(tree_fault(two(), ("try", even, [bare, deep])), ("twice", [1, 1]))
        self.assertEqual(tree_fault(two(), ("try", even, [bare, ("try", odd, [None, bare])])), ("form", [1, 0]))

    def test_a_wish_with_a_book_has_no_tree(self):
        for wish in with_books():
            strings = longs(wish)[0]
            options = greatest(wish, strings)
            tree = ("try", strings, [("bare", strings, strings, wish.given()[0])] * len(options))
            kind = tree_fault(wish, tree)
            cuts = [k for k, option in enumerate(options) if meeting(option, option, wish.given()[0])]
            self.assertEqual(kind, ("bare", [cuts[0]]))

    def test_what_is_judged_stays_as_it_was(self):
        for wish, tree in self.trees():
            before = as_told(wish)
            for path in places(tree):
                thing = put(tree, path, ("bare", 1, [], {}))
                kept = deepcopy(thing)
                tree_fault(wish, thing)
                self.assertEqual(thing, kept)
            kept = deepcopy(tree)
            tree_fault(wish, tree)
            book_fault(wish, tree)
            self.assertEqual(tree, kept)
            self.assertEqual(as_told(wish), before)

    def test_new_paths(self):
        found = tree_fault(two(), None)
        found[1].append(0)
        self.assertEqual(tree_fault(two(), None), ("form", []))


class Cells(unittest.TestCase):

    def test_strings_of_tables_are_in_order(self):
        wish = Wish("ba", "YX", all_pairs("ba", "YX"))
        cells = cells_of(wish)
        self.assertEqual(table(wish, "ab"), tuple(p + q for p in cells for q in cells))


if __name__ == "__main__":
    unittest.main()
