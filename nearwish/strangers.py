"""Breaks programs of strangers, for wishes that cannot be met by what they see."""

from nearwish.alltables import all_tables
from nearwish.checks import need_look, need_said
from nearwish.errors import IsNear
from nearwish.rings import wrong_places
from nearwish.search import solved_nameless, solved_near
from nearwish.siege import Siege

MOST_LOOK = 3


def break_named(wish, look, tell):
    """The tuple of a ring, a list of names and a place where the program for houses with names is wrong."""
    all_tables(wish)
    need_look(look, MOST_LOOK)
    stranger = NamedStranger(wish, tell)
    houses = Siege(_barred(solved_near(wish)), look, stranger, 2).ring()
    return _word(houses), [name for _, name in houses], _wrong_place(wish, look, stranger, houses)


def break_nameless(wish, look, tell):
    """The tuple of a ring and a place where the program for houses without names is wrong."""
    all_tables(wish)
    need_look(look, MOST_LOOK)
    stranger = NamelessStranger(wish, tell)
    houses = Siege(_barred(solved_nameless(wish)), look, stranger, 1).ring()
    return _word(houses), _wrong_place(wish, look, stranger, houses)


def break_called(wish, look, tell):
    """The tuple of a ring, an order of calls and a place where the program for called houses is wrong in the end."""
    all_tables(wish)
    need_look(look, MOST_LOOK)
    stranger = CalledStranger(wish, tell)
    houses = Siege(_barred(solved_near(wish)), look, stranger, 1).ring()
    # The two houses about the post are called first: neither is seen from the other one.
    firsts = [look, len(houses) - look - 1]
    calls = firsts + [k for k in range(len(houses)) if k not in firsts]
    word = _word(houses)
    return word, calls, wrong_places(wish, word, _said_in_order(stranger, look, word, calls))[0]


def _barred(solved):
    """What was found of the wish; IsNear if it is a book."""
    if solved.fixed is not None:
        raise IsNear()
    return solved


class Stranger:
    """A stranger's program, which has to give said letters of the wish."""

    def __init__(self, wish, tell):
        self._wish = wish
        self.tell = tell

    def checked(self, said):
        """What the program gave; NoSaid if it is no said letter."""
        need_said(self._wish, said)
        return said


class NamedStranger(Stranger):
    """A stranger's program for houses with names."""

    def says(self, houses):
        """What the house in the middle of these says."""
        tell = self.tell
        return self.checked(tell(_word(houses), [name for _, name in houses]))


class NamelessStranger(Stranger):
    """A stranger's program for houses without names."""

    def says(self, houses):
        """What the house in the middle of these says."""
        tell = self.tell
        return self.checked(tell(_word(houses)))


class CalledStranger(Stranger):
    """A stranger's program for houses that are called."""

    def says(self, houses):
        """What the house in the middle of these says if none of them has said anything."""
        return self.says_then(_word(houses), "." * len(houses))

    def says_then(self, letters, before):
        """What the house in the middle of these letters says after what was said before."""
        tell = self.tell
        return self.checked(tell(letters, before))


def _word(houses):
    """The given letters of the houses."""
    return "".join([letter for letter, _ in houses])


def _about(row, place, look):
    """What is seen from the place in the ring."""
    return [row[k % len(row)] for k in range(place - look, place + look + 1)]


def _wrong_place(wish, look, stranger, houses):
    """The first place of the ring where the program is wrong."""
    said = "".join([stranger.says(_about(houses, k, look)) for k in range(len(houses))])
    return wrong_places(wish, _word(houses), said)[0]


def _said_in_order(stranger, look, word, calls):
    """What the houses of the ring have said in the end, if they are called in this order."""
    said = ["." for _ in word]
    for place in calls:
        said[place] = stranger.says_then("".join(_about(word, place, look)), "".join(_about(said, place, look)))
    return "".join(said)
