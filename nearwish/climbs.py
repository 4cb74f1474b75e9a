"""The levels of things by which rising names are served, and rows of things in which each goes to each later one.

Things are told by their indexes: bit k of an integer tells whether the thing with index k is in a set.
"""

from nearwish.errors import TooMany
from nearwish.grids import bits, lowest


class Stage:
    """The things of a level: thing k has the sets lefts[k] and rights[k] of things of the level below.

    goes[k] is the set of the things of this level to which thing k goes.
    """

    def __init__(self, lefts, rights, goes):
        self.lefts = lefts
        self.rights = rights
        self.goes = goes


def stages(wish, look, most):
    """The levels from 0 to `look` of a wish with one given letter; TooMany if one has more than `most` things."""
    # The level 0 never has: there are no more letters.
    cells = wish.cells()
    goes = [sum([1 << k for k, behind in enumerate(cells) if wish.beside(cell, behind)]) for cell in cells]
    found = [Stage([], [], goes)]
    for _ in range(look):
        found.append(_next_stage(found[-1].goes, most))
    return found


def _next_stage(goes, most):
    """The level above the one of the things that go so."""
    # What all of some things go to: nothing is asked of no thing.
    found = {(1 << len(goes)) - 1: True}
    for row in goes:
        for rights in list(found):
            found[rights & row] = True
        if len(found) > most:
            raise TooMany(most)
    rights = list(found)
    lefts = [_all_from(goes, own) for own in rights]
    return Stage(lefts, rights, [_meeting(lefts, own) for own in rights])


def _all_from(goes, some):
    """The set of the things that go to each of these."""
    return sum([1 << k for k, row in enumerate(goes) if row & some == some])


def _meeting(sets, some):
    """The set of the indexes of the sets in which one of these stands."""
    return sum([1 << k for k, own in enumerate(sets) if own & some != 0])


def looped(goes):
    """The first thing that goes to itself, or None."""
    for k, row in enumerate(goes):
        if row >> k & 1 == 1:
            return k
    return None


def longest_row(goes, most):
    """The longest list of things, but no longer than `most`, of which each goes to each later one.

    No thing goes to itself, so none comes twice.
    """
    return _longest(goes, (1 << len(goes)) - 1, most, {})


def _longest(goes, some, most, kept):
    """As `longest_row`, with these things alone. `kept` has what was found already."""
    bound = min([most, len(bits(some))])
    if bound == 0:
        return []
    if (some, bound) not in kept:
        best = []
        for k in _firsts(goes, some):
            row = [k] + _longest(goes, some & goes[k], bound - 1, kept)
            if len(row) > len(best):
                best = row
            if len(best) == bound:
                break
        kept[(some, bound)] = best
    return kept[(some, bound)]


def _firsts(goes, some):
    """Those of the things with which a longest row can begin."""
    found = []
    order = sorted([(-len(bits(goes[k] & some)), k) for k in bits(some)])
    for _, k in order:
        if not any([_stands_in(goes, some, j, k) for j in found]):
            found.append(k)
    return found


def _stands_in(goes, some, one, other):
    """Whether from each row that begins with the thing `other` one can be made that begins with `one`, as long.

    If `one` is none of the later things, it takes the place of `other`, otherwise it is put ahead of it. So it has
    to go to all to which `other` goes, and to `other`, too, if that goes to `one`.
    """
    if goes[other] & some & ~goes[one] & ~(1 << one) != 0:
        return False
    return goes[other] >> one & 1 <= goes[one] >> other & 1


def told_letter(floors, things):
    """The letter that is told by things of the highest level, each of which goes to each later one."""
    row = things
    for stage in reversed(floors[1:]):
        # What stands in both goes with all that the next two things have in common.
        row = [lowest(stage.rights[one] & stage.lefts[other]) for one, other in zip(row, row[1:])]
    return row[0]
