"""What the arguments of the package's functions are checked by."""

from nearwish.errors import NoAnswer, NoLetter, NoLook, NoNumber, NoPlace, NoSaid, NoWord


def is_integer(value):
    """Whether it is an integer: a bool is none."""
    return isinstance(value, int) and not isinstance(value, bool)


def are_letters(value, letters):
    """Whether it is a string, perhaps empty, of some of these letters."""
    return isinstance(value, str) and all([letter in letters for letter in value])


def need_word(wish, word):
    """Raises NoWord if it is not a word of the wish."""
    if not are_letters(word, wish.given()):
        raise NoWord()


def need_ring(wish, word, least=1):
    """Raises NoWord if it is not a ring of the wish with at least so many houses."""
    if not are_letters(word, wish.given()) or len(word) < least:
        raise NoWord()


def need_answer(wish, word, answer):
    """Raises NoAnswer if it is not an answer to the word."""
    if not are_letters(answer, wish.said()) or len(answer) != len(word):
        raise NoAnswer()


def need_number(value, least, most):
    """Raises NoNumber if it is not an integer from `least` to `most`."""
    if not is_integer(value) or value < least or value > most:
        raise NoNumber()


def need_letter(wish, letter):
    """Raises NoLetter if it is not a given letter of the wish."""
    if not are_letters(letter, wish.given()) or len(letter) != 1:
        raise NoLetter()


def is_said(wish, value):
    """Whether it is a said letter of the wish."""
    return are_letters(value, wish.said()) and len(value) == 1


def need_said(wish, value):
    """Raises NoSaid if it is not a said letter of the wish."""
    if not is_said(wish, value):
        raise NoSaid()


def need_place(value, many):
    """Raises NoPlace if it is not one of so many indexes."""
    if not is_integer(value) or value < 0 or value >= many:
        raise NoPlace()


def need_look(value, most):
    """Raises NoLook if it is not an integer from 0 to `most`."""
    if not is_integer(value) or value < 0 or value > most:
        raise NoLook()
