"""How near one has to look for a wish."""

from nearwish.alltables import all_tables
from nearwish.errors import NoLevel, TooMany
from nearwish.search import solved_nameless, solved_near
from nearwish.wishes import with_letters

# From the least near one on.
LEVELS = ("none", "whole", "marks", "nameless")
MOST_LETTERS = 6


def level(wish):
    """The level of the wish: "none", "whole", "marks" or "nameless"."""
    # First, as it raises all that is to be raised.
    solved = solved_nameless(wish)
    known = all_tables(wish)
    letters = range(len(known.grid.letters))
    if not all([known.closes(k, x) for k in known.longs for x in letters]):
        return "none"
    if solved_near(wish).fixed is None:
        return "whole"
    return "marks" if solved.fixed is None else "nameless"


def least_said(wish, kind):
    """The list of the least strings of said letters with which alone the wish has this level or a nearer one."""
    all_tables(wish)
    if not isinstance(kind, str) or kind not in LEVELS[1:]:
        raise NoLevel()
    if len(wish.said()) > MOST_LETTERS:
        raise TooMany(MOST_LETTERS)
    level(wish)
    found = []
    for letters in _choices(wish.said()):
        # With more letters, a level is as near or nearer: what contains one that was found is not least.
        if any([_contains(letters, less) for less in found]):
            continue
        if LEVELS.index(level(with_letters(wish, letters))) >= LEVELS.index(kind):
            found.append(letters)
    return found


def _choices(said):
    """The strings of some of the letters, in order."""
    found = [""]
    for letter in said:
        found = found + [letters + letter for letters in found]
    order = [(len(letters), [said.index(own) for own in letters], letters) for letters in found if letters != ""]
    return [letters for _, _, letters in sorted(order)]


def _contains(letters, less):
    return all([letter in letters for letter in less])
