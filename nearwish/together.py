"""Wishes that are made of others."""

from nearwish.checks import are_letters
from nearwish.errors import NoGiven, NoLetters, NoWish, TooMany
from nearwish.wishes import GIVEN_LETTERS, MOST_GIVEN, SAID_LETTERS, are_different, wide_wish, with_letters


def both(one, other):
    """The wish whose houses say a letter of each of the two."""
    letters = _letters(one, other, len(one.said()) * len(other.said()))
    parts = [(s, t) for s in one.said() for t in other.said()]
    cells = [(x + letter, x + s, x + t) for x in one.given() for letter, (s, t) in zip(letters, parts)]
    pairs = [ahead + behind for ahead, p, q in cells for behind, after, later in cells
             if one.beside(p, after) and other.beside(q, later)]
    return wide_wish(one.given(), letters, pairs)


def one_of(one, other):
    """The wish whose houses all keep to the one, or all to the other one."""
    letters = _letters(one, other, len(one.said()) + len(other.said()))
    many = len(one.said())
    pairs = _renamed(one, letters[:many]) + _renamed(other, letters[many:])
    return wide_wish(one.given(), letters, pairs)


def _letters(one, other, many):
    """The first so many letters, for what is made of the two wishes."""
    if one.given() != other.given():
        raise NoGiven()
    if many > len(SAID_LETTERS):
        raise TooMany(len(SAID_LETTERS))
    return SAID_LETTERS[:many]


def _renamed(wish, letters):
    """The pairs of the wish with these said letters instead of its own ones, in turn."""
    names = {letter: letters[k] for k, letter in enumerate(wish.said())}
    return [pair[0] + names[pair[1]] + pair[2] + names[pair[3]] for pair in wish.pairs()]


def turned(wish):
    """The wish for rings that are read the other way round."""
    return wide_wish(wish.given(), wish.said(), [pair[2:] + pair[:2] for pair in wish.pairs()])


def seen(wish, given, old):
    """The wish with other given letters: each stands for the one of `old` at its place."""
    if not are_different(given, GIVEN_LETTERS, MOST_GIVEN):
        raise NoWish("given")
    if not are_letters(old, wish.given()) or len(old) != len(given):
        raise NoLetters()
    cells = [(new + s, letter + s) for new, letter in zip(given, old) for s in wish.said()]
    pairs = [one + other for one, p in cells for other, q in cells if wish.beside(p, q)]
    return wide_wish(given, wish.said(), pairs)


def struck(wish, letters):
    """The wish without these said letters."""
    said = wish.said()
    if not are_letters(letters, said) or len(set(letters)) != len(letters) or len(letters) == len(said):
        raise NoLetters()
    return with_letters(wish, "".join([letter for letter in said if letter not in letters]))
