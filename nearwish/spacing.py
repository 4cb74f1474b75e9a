"""Picks places of a ring that stand apart, each of them by looking at what is near it alone.

Two places are linked if none of those to pick from stands between them and they are too close. Linked places get
unlike shades, at first by what a look tells of each of them. As long as there are more than six shades, each place
takes as its new shade where, from the lowest binary digit on, its shade and that of the next linked place first
differ, together with its own digit there. Then the places are picked shade by shade, each if no linked one is.
"""

FEW_SHADES = 6


class NameShades:
    """First shades by names: different integers from 0 on below the bound."""

    def __init__(self, names, bound):
        self.bound = bound
        self._names = names

    def first_shade(self, place, far):
        """The shade of the place; `far` is how far behind it the next linked one stands, 0 if there is none."""
        return self._names[place]


class LetterShades:
    """First shades by the letters from a place on: linked places differ in one of the first `window` of them."""

    def __init__(self, word, letters, window, matches):
        self.bound = window * len(letters)
        self._word = word
        self._letters = letters
        self._matches = matches

    def first_shade(self, place, far):
        """The shade of the place; `far` is how far behind it the next linked one stands, 0 if there is none."""
        steps = self._matches[far][place] if far > 0 else 0
        letter = self._word[(place + steps) % len(self._word)]
        return steps * len(self._letters) + self._letters.index(letter)


def rounds(least):
    """How often places have to be picked until they stand at least so far apart: each time doubles the distance."""
    found = 0
    while 1 << found < least:
        found += 1
    return found


def spaced(size, places, least, shades):
    """The places that are picked from the ascending list: no two of them stand less than `least` apart.

    For each place of the list one that is picked stands at most rounds(least) * (least - 1) away. Whether a place
    is picked hangs on what stands at most (halvings + 5) * (least - 1) away, in each round, with the halvings of
    the bound of the shades, and on what their first shades hang on.
    """
    picked = places
    for _ in range(rounds(least)):
        picked = _picked(size, picked, least, shades)
    return picked


def _picked(size, places, least, shades):
    """The places that are picked in one round."""
    fars = _links(size, places, least)
    tints = [shades.first_shade(place, far) for place, far in zip(places, fars)]
    bound = shades.bound
    while bound > FEW_SHADES:
        behind = tints[1:] + tints[:1]
        # Without a next one, a place takes its shade as if the lowest digits differed.
        tints = [_shrunk(own, other if far > 0 else own ^ 1) for own, other, far in zip(tints, behind, fars)]
        bound = 2 * (bound - 1).bit_length()
    return _shade_by_shade(places, fars, tints)


def _links(size, places, least):
    """For each place how far behind it the next linked one stands, 0 if there is none."""
    gaps = [after - place for place, after in zip(places, places[1:])]
    if places != []:
        gaps.append(places[0] + size - places[-1])
    return [gap if gap < least else 0 for gap in gaps]


def _shrunk(own, other):
    """The new shade of a place, by its own one and that of the next linked place."""
    differing = own ^ other
    digit = (differing & -differing).bit_length() - 1
    return 2 * digit + (own >> digit & 1)


def _shade_by_shade(places, fars, tints):
    """The places that are picked if each shade has its turn: linked places never have it at once."""
    many = len(places)
    taken = [False for _ in places]
    for shade in range(FEW_SHADES):
        for k in range(many):
            barred_behind = fars[k] > 0 and taken[(k + 1) % many]
            barred_ahead = fars[k - 1] > 0 and taken[k - 1]
            if tints[k] == shade and not barred_behind and not barred_ahead:
                taken[k] = True
    return [place for place, flag in zip(places, taken) if flag]
