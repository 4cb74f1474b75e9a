"""Rings and the right answers to them."""

from nearwish.checks import is_integer, need_answer, need_number, need_ring
from nearwish.errors import NoIndex, NotRight
from nearwish.matrices import matrix_power, matrix_product, trace, unit_matrix


def right(wish, word, answer):
    """Whether the answer is right in the ring."""
    return wrong_places(wish, word, answer) == []


def wrong_places(wish, word, answer):
    """The ascending list of the houses whose cell and that of the next house are not a pair."""
    need_ring(wish, word)
    need_answer(wish, word, answer)
    cells = [x + s for x, s in zip(word, answer)]
    behind = cells[1:] + cells[:1]
    return [k for k in range(len(cells)) if not wish.beside(cells[k], behind[k])]


def first_answer(wish, word):
    """The first right answer to the ring, or None."""
    need_ring(wish, word)
    for first in wish.said():
        ways = _ways(wish, word, first)
        if ways[0][first] > 0:
            return _pick(wish, word, ways, 0)
    return None


def answers_many(wish, word):
    """The number of the right answers to the ring."""
    need_ring(wish, word)
    return _many_first(wish, word, wish.said())


def answer_at(wish, word, index):
    """The right answer with this index in the order of all right answers."""
    need_ring(wish, word)
    if not is_integer(index) or index < 0:
        raise NoIndex()
    totals = [(letter, _many_first(wish, word, letter)) for letter in wish.said()]
    first, rest = _choose(totals, index)
    return _pick(wish, word, _ways(wish, word, first), rest)


def answer_index(wish, word, answer):
    """The index of the answer in the order of all right answers."""
    if not right(wish, word, answer):
        raise NotRight()
    said = wish.said()
    index = _many_first(wish, word, said[:said.index(answer[0])])
    ways = _ways(wish, word, answer[0])
    for k in range(len(word)):
        for letter, many in _choices(wish, word, ways, answer[:k]):
            if letter == answer[k]:
                break
            index += many
    return index


def answers_modulo(wish, word, times, modulus):
    """The number of the right answers to the ring that is the word so many times, modulo `modulus`."""
    need_ring(wish, word)
    need_number(times, 1, 10 ** 30)
    need_number(modulus, 2, 10 ** 9)
    once = unit_matrix(len(wish.said()))
    for x, y in zip(word, word[1:] + word[:1]):
        once = matrix_product(once, _step(wish, x, y), modulus)
    # A right answer to a ring is a walk that comes back to the letter that it started with.
    return trace(matrix_power(once, times, modulus), modulus)


def _ways(wish, word, first):
    """For each house the dict from each letter that it may say to the number of ways to go on behind it.

    House 0 says `first`, and the last house has to go with that.
    """
    behind = {first: 1}
    after = word[0]
    ways = []
    for k in reversed(range(len(word))):
        letters = wish.said() if k > 0 else first
        here = {letter: _many_behind(wish, word[k] + letter, after, behind) for letter in letters}
        ways.append(here)
        behind = here
        after = word[k]
    ways.reverse()
    return ways


def _many_behind(wish, cell, given, behind):
    """The number of ways to go on behind the cell, if the next house has the given letter `given`."""
    return sum([many for letter, many in behind.items() if wish.beside(cell, given + letter)])


def _many_first(wish, word, letters):
    """The number of the right answers that begin with one of these letters."""
    return sum([_ways(wish, word, letter)[0][letter] for letter in letters])


def _choices(wish, word, ways, begun):
    """The letters that the house behind the beginning `begun` may say, with the ways to go on, in order."""
    k = len(begun)
    if k == 0:
        return list(ways[0].items())
    cell = word[k - 1] + begun[-1]
    return [(letter, many) for letter, many in ways[k].items() if wish.beside(cell, word[k] + letter)]


def _pick(wish, word, ways, index):
    """The answer with this index among the right ones that begin with the letter of `ways`."""
    answer = ""
    rest = index
    for _ in range(len(word)):
        letter, rest = _choose(_choices(wish, word, ways, answer), rest)
        answer += letter
    return answer


def _choose(choices, index):
    """The letter behind which the answer with this index stands, and its index among those behind the letter."""
    rest = index
    for letter, many in choices:
        if rest < many:
            return letter, rest
        rest -= many
    raise NoIndex()


def _step(wish, x, y):
    """The matrix of the said letters that may stand side by side in two houses with these given letters."""
    said = wish.said()
    return [[1 if wish.beside(x + s, y + t) else 0 for t in said] for s in said]
