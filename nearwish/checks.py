"""What the arguments of the package's functions are checked by."""

from nearwish.errors import NoAnswer, NoNumber, NoWord


def is_integer(value):
    """Whether it is an integer: a bool is none."""
    return isinstance(value, int) and not isinstance(value, bool)


def are_letters(value, letters):
    """Whether it is a string, perhaps empty, of some of these letters."""
    return isinstance(value, str) and all([letter in letters for letter in value])


def need_word(wish, word):
    """Raises NoWord if it is not a word of the wish."""
    if not are_letters(word, wish.given()):
        raise NoWord()


def need_ring(wish, word):
    """Raises NoWord if it is not a ring of the wish."""
    if not are_letters(word, wish.given()) or word == "":
        raise NoWord()


def need_answer(wish, word, answer):
    """Raises NoAnswer if it is not an answer to the word."""
    if not are_letters(answer, wish.said()) or len(answer) != len(word):
        raise NoAnswer()


def need_number(value, least, most):
    """Raises NoNumber if it is not an integer from `least` to `most`."""
    if not is_integer(value) or value < least or value > most:
        raise NoNumber()
