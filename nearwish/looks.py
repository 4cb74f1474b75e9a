"""Short looks without names: tables of what to say for each word that is seen."""

from nearwish.checks import is_said, need_look
from nearwish.grids import Grid, bits, lowest, union

MOST_LOOK = 5
MOST_WORDS = 32


def look_table(wish, look):
    """A look table, or None if there is none."""
    _need_look(wish, look)
    grid = Grid(wish)
    words = _words(wish, 2 * look + 1)
    at = {word: k for k, word in enumerate(words)}
    links = [(at[word[:-1]], at[word[1:]]) for word in _words(wish, 2 * look + 2)]
    found = _fixed(grid, links, [_fits(grid, word, word[look]) for word in words])
    if found is None:
        return None
    return {word: grid.names[cell][1] for word, cell in zip(words, found)}


def look_fault(wish, look, thing):
    """The first fault of a look table, or None if it is one."""
    _need_look(wish, look)
    words = _words(wish, 2 * look + 1)
    if not isinstance(thing, dict) or len(thing) != len(words):
        return ("form",)
    if not all([word in thing and is_said(wish, thing[word]) for word in words]):
        return ("form",)
    for word in _words(wish, 2 * look + 2):
        if not wish.beside(word[look] + thing[word[:-1]], word[look + 1] + thing[word[1:]]):
            return "pair", word
    return None


def _need_look(wish, look):
    """Raises NoLook if the look is none that is let for this wish."""
    many = len(wish.given())
    most = 0
    # With each house more on both sides, there are so many times the words.
    words = many * many * many
    while most < MOST_LOOK and words <= MOST_WORDS:
        most += 1
        words = words * many * many
    need_look(look, most)


def _words(wish, many):
    """All words with so many letters, in order."""
    words = [""]
    for _ in range(many):
        words = [word + letter for word in words for letter in wish.given()]
    return words


def _fits(grid, word, letter):
    """The set of the cells with the letter that a house that sees this word may have."""
    own = grid.of_letter[grid.letters.index(letter)]
    if word != letter * len(word):
        return own
    # The next house may see the same.
    return sum([1 << cell for cell in bits(own) if grid.nexts[cell] >> cell & 1 == 1])


def _fixed(grid, links, fits):
    """The list of a cell for each word, out of its set, such that all that are linked are pairs; None if none is."""
    left = _narrowed(grid, links, fits)
    if 0 in left:
        return None
    several = [word for word, some in enumerate(left) if some != 1 << lowest(some)]
    if several == []:
        return [lowest(some) for some in left]
    # The fewest cells first: so most branches end at once.
    first = min(several, key=lambda word: len(bits(left[word])))
    for cell in bits(left[first]):
        found = _fixed(grid, links, left[:first] + [1 << cell] + left[first + 1:])
        if found is not None:
            return found
    return None


def _narrowed(grid, links, fits):
    """The sets without the cells that go with no cell of a linked word."""
    left = list(fits)
    before = []
    while left != before:
        before = list(left)
        for one, other in links:
            left[other] = left[other] & union(grid.nexts, left[one])
            left[one] = left[one] & union(grid.befores, left[other])
    return left
