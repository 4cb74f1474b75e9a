"""Houses in a row whose names rise: each sees its own name and some of the next ones."""

from itertools import combinations

from nearwish.checks import is_integer, is_said, need_look, need_number, need_said
from nearwish.climbs import longest_row, looped, stages, told_letter
from nearwish.errors import IsNear, NoGiven

MOST_LOOK = 2
MOST_BOUND = 12
FEW_THINGS = 30
MANY_THINGS = 200


def rising(wish, look):
    """The greatest number of names for which there is a rising program, or None if there is one for each."""
    _need_one_letter(wish)
    need_look(look, MOST_LOOK)
    goes = stages(wish, look, FEW_THINGS)[-1].goes
    if looped(goes) is not None:
        return None
    return len(longest_row(goes, FEW_THINGS))


def rising_program(wish, look, bound):
    """A rising program for the names below the bound, or None."""
    _need_one_letter(wish)
    need_look(look, MOST_LOOK)
    need_number(bound, 1, MOST_BOUND)
    levels = stages(wish, look, MANY_THINGS)
    row = _row(levels[-1].goes, bound)
    if len(row) < bound:
        return None
    return {names: wish.said()[told_letter(levels, [row[name] for name in names])]
            for names in _tuples(bound, look + 1)}


def _row(goes, bound):
    """The longest row of things, up to `bound`, of which each goes to each later one."""
    k = looped(goes)
    if k is not None:
        return [k for _ in range(bound)]
    return longest_row(goes, bound)


def rising_fault(wish, look, bound, thing):
    """The first fault of a rising program for the names below the bound, or None if it is one."""
    _need_one_letter(wish)
    need_look(look, MOST_LOOK)
    need_number(bound, 1, MOST_BOUND)
    if not _is_program(wish, look, bound, thing):
        return ("form",)
    for names in _tuples(bound, look + 2):
        if not _fit(wish, thing[names[:-1]], thing[names[1:]]):
            return "pair", names
    return None


def break_rising(wish, look, tell):
    """The first tuple of names for which what the program gives is no pair."""
    bound = rising(wish, look)
    if bound is None:
        raise IsNear()
    # Below one more name than can be served, there always is one.
    for names in _tuples(bound + 1, look + 2):
        ahead = tell(names[:-1])
        need_said(wish, ahead)
        behind = tell(names[1:])
        need_said(wish, behind)
        if not _fit(wish, ahead, behind):
            return names
    return None


def _need_one_letter(wish):
    """Raises NoGiven if the wish has more than one given letter."""
    if len(wish.given()) != 1:
        raise NoGiven()


def _tuples(bound, many):
    """The list of the ascending tuples of so many names below the bound, in order."""
    return list(combinations(range(bound), many))


def _fit(wish, ahead, behind):
    """Whether the two said letters, with the given letter, are a pair."""
    return wish.beside(wish.given() + ahead, wish.given() + behind)


def _is_program(wish, look, bound, thing):
    """Whether it has the form of a rising program for the names below the bound."""
    names = _tuples(bound, look + 1)
    if not isinstance(thing, dict) or len(thing) != len(names):
        return False
    if not all([key in thing and is_said(wish, thing[key]) for key in names]):
        return False
    # A flag is equal to an integer, but is none.
    return all([is_integer(name) for key in thing for name in key])
