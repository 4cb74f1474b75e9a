"""Rings without an answer."""

from nearwish.alltables import all_tables
from nearwish.checks import need_number, need_ring
from nearwish.grids import Grid, bits, union


def unanswered(wish, least):
    """The first ring with at least `least` houses that has no right answer, or None."""
    known = all_tables(wish)
    need_number(least, 1, 60)
    letters = wish.given()
    open_tables = [[not known.closes(k, x) for k in range(len(known.rows))] for x in range(len(letters))]
    # A ring is its first letter and a word; behind so many letters the sets of tables only come again.
    for many in range(least - 1, max(least - 1, known.m) + known.p):
        for x, letter in enumerate(letters):
            if any([open_tables[x][k] for k in known.layer(many)]):
                return letter + known.first_word(many, open_tables[x])
    return None


def lengths(wish, word):
    """The tuple (ahead, round) of two lists of flags: whether the word 1, 2, .. times has a right answer."""
    need_ring(wish, word)
    grid = Grid(wish)
    own = grid.of_letter[grid.letters.index(word[0])]
    rows = grid.rows_of(word[1:])
    # Row c: the cells that house 0 of the next copy may have, if house 0 of this copy has the cell c.
    once = [row & own if own >> c & 1 == 1 else 0 for c, row in enumerate(rows)]
    seen = {}
    flags = []
    power = tuple(once)
    while power not in seen:
        seen[power] = len(flags)
        flags.append(any([power[c] >> c & 1 == 1 for c in bits(own)]))
        power = tuple([union(once, row) for row in power])
    return _shortest(flags[:seen[power]], flags[seen[power]:])


def _shortest(ahead, turn):
    """The same flags with `turn`, which comes again and again, and then `ahead` as short as can be."""
    many = len(turn)
    size = 1
    while many % size > 0 or turn[:size] * (many // size) != turn:
        size += 1
    again = turn[:size]
    kept = len(ahead)
    while kept > 0 and ahead[kept - 1] == again[-1]:
        again = again[-1:] + again[:-1]
        kept -= 1
    return ahead[:kept], again


def rings_modulo(wish, houses, modulus):
    """The number of the rings with so many houses that have a right answer, modulo `modulus`."""
    known = all_tables(wish)
    need_number(houses, 1, 10 ** 30)
    need_number(modulus, 2, 10 ** 9)
    counts = _words_by_table(known, houses - 1, modulus)
    return sum([many for k, many in enumerate(counts) for x in range(len(wish.given()))
                if known.closes(k, x)]) % modulus


def _words_by_table(known, letters, modulus):
    """For each table the number of the words with so many letters that have it, modulo `modulus`."""
    joined = _joined(known)
    counts = [1 if k == 0 else 0 for k in range(len(known.rows))]
    for place in reversed(range(letters.bit_length())):
        counts = _doubled(joined, counts, modulus)
        if letters >> place & 1 == 1:
            counts = _one_more(known, counts, modulus)
    return counts


def _joined(known):
    """Row k: the tables of a word with the table k and, behind it, a word with the table 0, 1, .."""
    letters = known.grid.letters
    at = {word: k for k, word in enumerate(known.words)}
    # A first word without its last letter is a first word, too, and stands ahead of it.
    last_steps = [(at[word[:-1]], letters.index(word[-1])) for word in known.words[1:]]
    rows = []
    for k in range(len(known.rows)):
        row = [k]
        for begun, x in last_steps:
            row.append(known.steps[row[begun]][x])
        rows.append(row)
    return rows


def _doubled(joined, counts, modulus):
    """The counts of the words of two halves, from the counts of the halves."""
    found = [0 for _ in counts]
    some = [(k, many) for k, many in enumerate(counts) if many > 0]
    for k, many in some:
        row = joined[k]
        for j, more in some:
            found[row[j]] += many * more
    return [many % modulus for many in found]


def _one_more(known, counts, modulus):
    """The counts of the words with one letter more."""
    found = [0 for _ in counts]
    for k, many in enumerate(counts):
        for after in known.steps[k]:
            found[after] += many
    return [many % modulus for many in found]
