"""The greatest rectangles of tables."""

from nearwish.errors import TooMany
from nearwish.grids import bits

MOST_RECTANGLES = 100
MOST_LONGS = 20


def greatest_of(grid, rows):
    """The greatest rectangles of the table with these rows: pairs of sets of cells, ordered by their lefts."""
    found = {rights: True for rights in _first_rights(grid, rows)}
    waiting = list(found)
    # Taking a cell more to the lefts of one leads to each of them, past greatest rectangles only.
    while waiting and len(found) <= MOST_RECTANGLES:
        rights = waiting.pop()
        for row in rows:
            less = rights & row
            if less not in found and grid.covers(less):
                found[less] = True
                waiting.append(less)
    if len(found) > MOST_RECTANGLES:
        raise TooMany(MOST_RECTANGLES)
    rectangles = [(_lefts(rows, rights), rights) for rights in found]
    return sorted(rectangles, key=lambda rectangle: bits(rectangle[0]))


def _first_rights(grid, rows):
    """The rights that go with just one cell for each given letter as lefts, if they are such themselves."""
    found = [(1 << len(rows)) - 1]
    for own in grid.of_letter:
        less = [rights & rows[c] for rights in found for c in bits(own)]
        # Each once, in the order in which they were met.
        found = list({rights: True for rights in less if grid.covers(rights)})
    return found


def _lefts(rows, rights):
    """All cells that stand ahead of each of these."""
    return sum([1 << p for p in range(len(rows)) if rows[p] & rights == rights])


def long_rectangles(known):
    """For each long table the list of its greatest rectangles; TooMany if there are too many of one or the other."""
    if len(known.longs) > MOST_LONGS:
        raise TooMany(MOST_LONGS)
    return [greatest_of(known.grid, known.rows[k]) for k in known.longs]
