"""The errors of the package: each is a NearError, and none is another one."""


class NearError(ValueError):
    """What all errors of the package are."""


class NoWord(NearError):
    """Not a word of the wish, or not a ring where a ring is asked for."""


class NoAnswer(NearError):
    """Not an answer to the ring."""


class NoIndex(NearError):
    """Not the index of a right answer."""


class NotRight(NearError):
    """An answer to the ring that is not a right one."""


class NoNumber(NearError):
    """Not an integer within the bounds that are told."""


class NoTable(NearError):
    """Not a table of the wish."""


class NoLetter(NearError):
    """Not a given letter of the wish."""


class NoShort(NearError):
    """Not a short word of the wish."""


class NoBound(NearError):
    """Not an integer within the bounds of names."""


class NotNear(NearError):
    """The wish cannot be met by looking near."""


class NoNames(NearError):
    """Not a list of different names below the bound."""


class NoPlace(NearError):
    """Not the index of a house."""


class NoHouse(NearError):
    """The ring has no house that can be taken out."""


class NoSaid(NearError):
    """A program gave something that is no said letter."""


class NoLook(NearError):
    """Not a look that is allowed here."""


class IsNear(NearError):
    """The wish can be met by looking near."""


class NoGiven(NearError):
    """The given letters are not as asked for."""


class NoLetters(NearError):
    """Not a string of letters as asked for."""


class NoLevel(NearError):
    """Not the name of a level that can be asked for."""


class NoText(NearError):
    """Not the text of a wish."""


class NoWish(NearError):
    """A part that a wish was to be made of is not as described."""

    def __init__(self, part):
        # The value stays out of the message: it may be anything, and some values have no text.
        super().__init__("a part of the wish is not as described")
        self.part = part


class TooMany(NearError):
    """There are more things of a kind than the package takes on."""

    def __init__(self, most):
        super().__init__("there are more of them than the package takes on")
        self.most = most
