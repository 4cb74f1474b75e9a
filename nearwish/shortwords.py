"""Short words, their run cells, and the tables that end and begin with them."""

from nearwish.checks import are_letters
from nearwish.errors import NoShort, TooMany
from nearwish.grids import bits

MOST_SHORTS = 24


def least_turn(letters, word):
    """How many letters of the word stand ahead of its first rotation, in the order of `letters`."""
    order = [letters.index(letter) for letter in word]
    return min(list(range(len(word))), key=lambda k: order[k:] + order[:k])


def is_short(known, value):
    """Whether it is a short word of the wish."""
    letters = known.grid.letters
    if not are_letters(value, letters) or not 1 <= len(value) <= known.m:
        return False
    # A word that is a shorter one repeated is found again ahead of the end of its double.
    return (value + value).find(value, 1) == len(value) and least_turn(letters, value) == 0


def need_short(known, value):
    """Raises NoShort if it is not a short word of the wish."""
    if not is_short(known, value):
        raise NoShort()


def all_shorts(known):
    """The list of the short words, in order; TooMany if there are more than 24."""
    found = []
    words = [""]
    for _ in range(known.m):
        words = [word + letter for word in words for letter in known.grid.letters]
        found.extend([word for word in words if is_short(known, word)])
        if len(found) > MOST_SHORTS:
            raise TooMany(MOST_SHORTS)
    return found


def run_cells_of(known, word):
    """The list of the indexes of the run cells of a short word."""
    k = known.follow(0, word[1:])
    own = known.grid.of_letter[known.grid.letters.index(word[0])]
    return [c for c in bits(own) if known.has(k, c, c)]


def ending_of(known, word):
    """The tables that end with a short word, and how many copies of it are enough for them."""
    now = list(range(len(known.rows)))
    copies = 0
    while True:
        after = sorted({known.follow(k, word) for k in now})
        if after == now:
            return now, copies
        now = after
        copies += 1


def beginning_of(known, word):
    """The tables that begin with a short word, and how many copies behind `word[1:]` are enough for them."""
    now = list(range(len(known.rows)))
    copies = 0
    while True:
        after = sorted({known.lead(word, k) for k in now})
        if after == now:
            return sorted({known.lead(word[1:], k) for k in now}), copies
        now = after
        copies += 1


class Run:
    """A short word, its run cells, and the tables that end and begin with it."""

    def __init__(self, known, word):
        self.word = word
        self.choices = run_cells_of(known, word)
        self.ending, behind = ending_of(known, word)
        self.beginning, ahead = beginning_of(known, word)
        # So many letters of the word again and again make sure of both.
        self.enough = max(behind, ahead) * len(word)
