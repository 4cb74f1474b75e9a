"""Judges books and trees that are handed in."""


def book_flaw(puzzle, thing):
    """The fault of a book, or None."""
    if not _is_book(puzzle, thing):
        return ("form",)
    return _first_strange(puzzle, thing) or _first_cut(puzzle, thing)


def _is_book(puzzle, thing):
    """Whether it has the form of a book."""
    if not isinstance(thing, dict) or len(thing) != puzzle.many_longs:
        return False
    texts = [puzzle.text(number) for number in range(puzzle.many_longs)]
    return all([strings in thing and _is_rectangle(puzzle, thing[strings]) for strings in texts])


def _is_rectangle(puzzle, value):
    """Whether it has the form of a rectangle: two tuples of cells, none empty, ordered, no cell twice."""
    if not isinstance(value, tuple) or len(value) != 2:
        return False
    return all([_is_side(puzzle, side) for side in value])


def _is_side(puzzle, side):
    if not isinstance(side, tuple) or side == () or not all([is_cell(puzzle, cell) for cell in side]):
        return False
    places = [puzzle.known.grid.places[cell] for cell in side]
    return all([k < j for k, j in zip(places, places[1:])])


def is_cell(puzzle, value):
    """Whether it is a cell of the wish."""
    return isinstance(value, str) and value in puzzle.known.grid.places


def book_sides(puzzle, book):
    """For each long table its rectangle in the book, as a pair of sets of cells."""
    rectangles = [book[puzzle.text(number)] for number in range(puzzle.many_longs)]
    return [(_mask(puzzle, lefts), _mask(puzzle, rights)) for lefts, rights in rectangles]


def _mask(puzzle, cells):
    return sum([1 << puzzle.known.grid.places[cell] for cell in cells])


def _first_strange(puzzle, book):
    """The fault of the first rectangle that is none, or None."""
    for number, k in enumerate(puzzle.known.longs):
        text = puzzle.text(number)
        lefts, rights = book[text]
        for left in lefts:
            for right in rights:
                if not puzzle.known.has(k, puzzle.known.grid.places[left], puzzle.known.grid.places[right]):
                    return "rectangle", text, left, right
    return None


def _first_cut(puzzle, book):
    """The fault of the first two rectangles that do not meet, or None."""
    sides = book_sides(puzzle, book)
    for one, (_, rights) in enumerate(sides):
        for other, (lefts, _) in enumerate(sides):
            for x, letter in enumerate(puzzle.known.grid.letters):
                if rights & lefts & puzzle.known.grid.of_letter[x] == 0:
                    return "cut", puzzle.text(one), puzzle.text(other), letter
    return None


def tree_flaw(puzzle, thing):
    """The fault of a tree, or None."""
    return _flaw_at(puzzle, thing, {}, [])


def _flaw_at(puzzle, thing, held, path):
    """The fault of a tree that stands behind this path, where `held` has the option of each thing that is tried."""
    kind = _kind(thing)
    if kind in ("try", "run"):
        return _branching_flaw(puzzle, thing, held, path)
    if kind == "bare":
        return _bare_flaw(puzzle, thing, held, path)
    if kind == "lead":
        return _lead_flaw(puzzle, thing, held, path)
    if kind in ("end", "begin"):
        return _side_flaw(puzzle, thing, held, path)
    return "form", path


def _kind(thing):
    """The word that tells what the place is, or None if its length is not that of such a place."""
    if not isinstance(thing, tuple) or thing == () or not isinstance(thing[0], str):
        return None
    size = {"try": 3, "run": 3, "bare": 4, "lead": 4, "end": 5, "begin": 5}.get(thing[0])
    return thing[0] if size == len(thing) else None


def _branching_flaw(puzzle, thing, held, path):
    kind, value, branches = thing
    number = puzzle.long_thing(value) if kind == "try" else puzzle.short_thing(value)
    if number is None or not isinstance(branches, list) or len(branches) != len(puzzle.options[number]):
        return "form", path
    if number in held:
        return "twice", path
    for option, branch in enumerate(branches):
        flaw = _flaw_at(puzzle, branch, {**held, number: option}, path + [option])
        if flaw is not None:
            return flaw
    return None


def _bare_flaw(puzzle, thing, held, path):
    one = puzzle.long_thing(thing[1])
    other = puzzle.long_thing(thing[2])
    x = puzzle.letter_number(thing[3])
    if one is None or other is None or x is None:
        return "form", path
    if one in held and other in held and puzzle.no_meeting(one, held[one], other, held[other], x):
        return None
    return "bare", path


def _lead_flaw(puzzle, thing, held, path):
    one = puzzle.short_thing(thing[1])
    k = puzzle.known.number(thing[2])
    other = puzzle.short_thing(thing[3])
    if one is None or k is None or other is None:
        return "form", path
    if one in held and other in held and puzzle.begins(k, one) and puzzle.ends(k, other):
        if puzzle.no_lead(one, held[one], k, other, held[other]):
            return None
    return "leaf", path


def _side_flaw(puzzle, thing, held, path):
    """The fault of an "end" or a "begin", or None."""
    kind, *parts = thing
    # An "end" is told from its long table on, a "begin" from its short word on.
    one, letter, table, short = parts if kind == "end" else [parts[3], parts[2], parts[1], parts[0]]
    number = puzzle.long_thing(one)
    x = puzzle.letter_number(letter)
    k = puzzle.known.number(table)
    run = puzzle.short_thing(short)
    # Without short words, there is no such place.
    if number is None or x is None or k is None or run is None:
        return "form", path
    if number in held and run in held:
        if kind == "end" and puzzle.ends(k, run) and puzzle.no_end(number, held[number], x, k, run, held[run]):
            return None
        if kind == "begin" and puzzle.begins(k, run) and puzzle.no_begin(number, held[number], x, k, run, held[run]):
            return None
    return "leaf", path
