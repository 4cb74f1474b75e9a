"""Wishes as texts."""

from nearwish.errors import NoText
from nearwish.wishes import GIVEN_LETTERS, SAID_LETTERS, are_different, are_pairs, wide_wish


def wish_text(wish):
    """The three lines that tell the wish."""
    return "\n".join(["given " + wish.given(), "said " + wish.said(), " ".join(["pairs"] + wish.pairs())])


def read_wish(text):
    """The wish whose text it is."""
    if not isinstance(text, str):
        raise NoText()
    # More parts than a text has would only make it another one.
    parts = text.replace("\n", " ").split(" ")
    if len(parts) < 5:
        raise NoText()
    given, said, pairs = parts[1], parts[3], parts[5:]
    if not are_different(given, GIVEN_LETTERS, len(GIVEN_LETTERS)):
        raise NoText()
    if not are_different(said, SAID_LETTERS, len(SAID_LETTERS)) or not are_pairs(pairs, given, said):
        raise NoText()
    wish = wide_wish(given, said, pairs)
    # What stands elsewhere, or in another order, shows here.
    if wish_text(wish) != text:
        raise NoText()
    return wish
