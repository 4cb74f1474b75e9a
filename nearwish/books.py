"""Rectangles, books, and trees that tell that there is no book."""

from nearwish.alltables import all_tables
from nearwish.judges import book_flaw, tree_flaw
from nearwish.rectangles import greatest_of
from nearwish.search import near_puzzle, solved_near


def greatest(wish, table):
    """The list of the greatest rectangles of the table, ordered by their lefts."""
    known = all_tables(wish)
    rows = known.rows[known.need(table)]
    return [(known.grid.texts(lefts), known.grid.texts(rights)) for lefts, rights in greatest_of(known.grid, rows)]


def near(wish):
    """The tuple of "yes" and a book, or of "no" and a tree."""
    solved = solved_near(wish)
    if solved.fixed is None:
        return "no", solved.tree()
    return "yes", solved.book()


def book_fault(wish, thing):
    """The first fault of a book, or None if it is one."""
    return book_flaw(near_puzzle(wish), thing)


def tree_fault(wish, thing):
    """The first fault of a tree, or None if it is one."""
    return tree_flaw(near_puzzle(wish), thing)
