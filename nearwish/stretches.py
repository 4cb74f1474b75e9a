"""Long stretches of a ring in which a short word comes again and again."""


def matches(word, far):
    """For each house how many houses from it on have the letters of the houses so far behind them.

    The ring is not a shorter word repeated, and `far` is less than the number of its houses.
    """
    size = len(word)
    found = [0 for _ in word]
    # Twice round, as the letters that match may go on across the end of the word.
    for k in reversed(range(2 * size)):
        place = k % size
        same = word[place] == word[(place + far) % size]
        found[place] = found[(place + 1) % size] + 1 if same else 0
    return found


def stretches(word, least, all_matches):
    """The stretches with at least `least` houses: tuples of the first house, the number of houses and the step.

    The step is the least distance at which all of the letters match. all_matches[step] is what `matches` gives.
    """
    found = []
    seen = set()
    for step in range(1, len(all_matches)):
        for place, many in enumerate(all_matches[step]):
            # It is the first house if the letter ahead of it does not match.
            if many + step >= least and all_matches[step][place - 1] == 0 and (place, many + step) not in seen:
                seen.add((place, many + step))
                found.append((place, many + step, step))
    return found


def outside(size, rows):
    """The houses outside of all stretches."""
    inside = [False for _ in range(size)]
    for first, many, _ in rows:
        for k in range(first, first + many):
            inside[k % size] = True
    return [place for place in range(size) if not inside[place]]
