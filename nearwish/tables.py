"""The tables of words, and those of a wish."""

from nearwish.alltables import all_tables
from nearwish.checks import need_letter, need_number, need_word
from nearwish.grids import Grid


def table(wish, word):
    """The table of the word."""
    need_word(wish, word)
    grid = Grid(wish)
    return grid.table_text(grid.rows_of(word))


def tables(wish):
    """The list of tuples (word, table): each table with the first word that has it, in the order of these words."""
    known = all_tables(wish)
    return list(zip(known.words, known.tuples))


def behind(wish, table, word):
    """The table of a word with this table, followed by `word`."""
    known = all_tables(wish)
    k = known.need(table)
    need_word(wish, word)
    return known.tuples[known.follow(k, word)]


def ahead(wish, word, table):
    """The table of `word`, followed by a word with this table."""
    known = all_tables(wish)
    need_word(wish, word)
    return known.tuples[known.lead(word, known.need(table))]


def across(wish, one, letter, other):
    """The table of a word with the table `one`, then the letter, then a word with the table `other`."""
    known = all_tables(wish)
    k = known.need(one)
    need_letter(wish, letter)
    # Any word with the table `other` does, so its first one.
    return known.tuples[known.follow(k, letter + known.words[known.need(other)])]


def start(wish):
    """The tuple (m, p): from the words of m letters on, the sets of tables come again after p letters more."""
    known = all_tables(wish)
    return known.m, known.p


def longs(wish):
    """The list of the long tables, in the order of `tables`."""
    known = all_tables(wish)
    return [known.tuples[k] for k in known.longs]


def word_with(wish, table, least):
    """The first word with at least `least` letters that has this table, or None."""
    known = all_tables(wish)
    k = known.need(table)
    need_number(least, 0, 60)
    wanted = [j == k for j in range(len(known.rows))]
    for many in range(least, max(least, known.m) + known.p):
        if k in known.layer(many):
            return known.first_word(many, wanted)
    return None
