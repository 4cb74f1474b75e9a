"""Short words and their runs, nameless books, and trees that tell that there is no nameless book."""

from nearwish.alltables import all_tables
from nearwish.judges import book_flaw, book_sides, is_cell, tree_flaw
from nearwish.search import nameless_puzzle, solved_nameless
from nearwish.shortwords import all_shorts, beginning_of, ending_of, need_short, run_cells_of


def shorts(wish):
    """The list of the short words, in order."""
    return all_shorts(all_tables(wish))


def run_cells(wish, word):
    """The list of the run cells of the short word, in order."""
    known = all_tables(wish)
    need_short(known, word)
    return [known.grid.names[c] for c in run_cells_of(known, word)]


def ending(wish, word):
    """The list of the tables that end with the short word, in the order of `tables`."""
    known = all_tables(wish)
    need_short(known, word)
    numbers, _ = ending_of(known, word)
    return [known.tuples[k] for k in numbers]


def beginning(wish, word):
    """The list of the tables that begin with the short word, in the order of `tables`."""
    known = all_tables(wish)
    need_short(known, word)
    numbers, _ = beginning_of(known, word)
    return [known.tuples[k] for k in numbers]


def nameless(wish):
    """The tuple of "yes" and a nameless book, or of "no" and a nameless tree."""
    solved = solved_nameless(wish)
    if solved.fixed is None:
        return "no", solved.tree()
    names = solved.puzzle.known.grid.names
    return "yes", (solved.book(), {word: names[c] for word, c in solved.run_cells().items()})


def nameless_book_fault(wish, thing):
    """The first fault of a nameless book, or None if it is one."""
    puzzle = nameless_puzzle(wish)
    if not isinstance(thing, tuple) or len(thing) != 2 or not _are_runs(puzzle, thing[1]):
        return ("form",)
    book, cells = thing
    flaw = book_flaw(puzzle, book)
    if flaw is not None:
        return flaw
    places = {run.word: puzzle.known.grid.places[cells[run.word]] for run in puzzle.runs}
    for run in puzzle.runs:
        if places[run.word] not in run.choices:
            return "run", run.word
    sides = book_sides(puzzle, book)
    return _first_end(puzzle, sides, places) or _first_begin(puzzle, sides, places) or _first_lead(puzzle, places)


def nameless_tree_fault(wish, thing):
    """The first fault of a nameless tree, or None if it is one."""
    return tree_flaw(nameless_puzzle(wish), thing)


def _are_runs(puzzle, value):
    """Whether it is a dict from exactly the short words to cells."""
    if not isinstance(value, dict) or len(value) != len(puzzle.runs):
        return False
    return all([run.word in value and is_cell(puzzle, value[run.word]) for run in puzzle.runs])


def _first_end(puzzle, sides, places):
    """The fault of the first short word, table that ends with it, long table and letter without a cell, or None."""
    for run in puzzle.runs:
        for k in run.ending:
            column = puzzle.known.column(k, places[run.word])
            missing = _first_missing(puzzle, [rights & column for _, rights in sides])
            if missing is not None:
                return "end", run.word, puzzle.known.tuples[k], missing[0], missing[1]
    return None


def _first_begin(puzzle, sides, places):
    """The fault of the first short word, table that begins with it, long table and letter without a cell, or None."""
    for run in puzzle.runs:
        for k in run.beginning:
            row = puzzle.known.rows[k][places[run.word]]
            missing = _first_missing(puzzle, [lefts & row for lefts, _ in sides])
            if missing is not None:
                return "begin", run.word, puzzle.known.tuples[k], missing[0], missing[1]
    return None


def _first_missing(puzzle, cells):
    """The first long table and the first letter for which its set of cells has none, or None."""
    for number, mask in enumerate(cells):
        for x, letter in enumerate(puzzle.known.grid.letters):
            if mask & puzzle.known.grid.of_letter[x] == 0:
                return puzzle.text(number), letter
    return None


def _first_lead(puzzle, places):
    """The fault of the first two short words and table from the one to the other that bars their cells, or None."""
    for run in puzzle.runs:
        for other in puzzle.runs:
            for k in run.beginning:
                if k in other.ending and not puzzle.known.has(k, places[run.word], places[other.word]):
                    return "lead", run.word, other.word, puzzle.known.tuples[k]
    return None
