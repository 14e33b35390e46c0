"""Names, books, stocks, extended stocks and runs: what is one and what is none."""

from mintlaw.integers import are_integers, is_integer

LETTERS = "abcdefghijklmnopqrstuvwxyz"
NAME_SIGNS = "abcdefghijklmnopqrstuvwxyz0123456789"
RESERVED = ("kinds", "nothing", "endless", "x")
MOST_SIGNS = 12
MOST_KINDS = 6
MOST_MOVES = 8
MOST_UNITS = 1000
MOST_DEPTH = 30
ENDLESS = -1


def is_name(value):
    """Tell whether any value is a name."""
    if not isinstance(value, str) or not 1 <= len(value) <= MOST_SIGNS:
        return False
    if value[0] not in LETTERS or value in RESERVED:
        return False
    return all(sign in NAME_SIGNS for sign in value)


def is_book(value):
    """Tell whether any value is a book."""
    if not isinstance(value, tuple) or len(value) != 2:
        return False
    kinds, moves = value
    if not are_kinds(kinds) or not are_moves(moves, len(kinds)):
        return False
    names = list(kinds) + [move[0] for move in moves]
    return len(set(names)) == len(names)


def are_kinds(value):
    """Tell whether any value is a tuple of names for kinds; they may be the same."""
    if not isinstance(value, tuple) or not 1 <= len(value) <= MOST_KINDS:
        return False
    return all(is_name(kind) for kind in value)


def are_moves(value, width):
    """Tell whether any value is a tuple of moves for so many kinds; names may be the same."""
    if not isinstance(value, tuple) or len(value) > MOST_MOVES:
        return False
    return all(is_move(move, width) for move in value)


def is_move(value, width):
    """Tell whether any value is a move for so many kinds."""
    if not isinstance(value, tuple) or len(value) != 4:
        return False
    name, take, least, most = value
    if not is_name(name):
        return False
    if not all(are_units(units, width) for units in (take, least, most)):
        return False
    return all([low <= high for low, high in zip(least, most)])


def are_units(value, width):
    """Tell whether any value is what a move may take or give."""
    return are_integers(value, width, 0) and max(value) <= MOST_UNITS


def is_stock(book, value):
    """Tell whether any value is a stock of the book."""
    return are_integers(value, len(book[0]), 0)


def is_extended(book, value):
    """Tell whether any value is an extended stock of the book."""
    return are_integers(value, len(book[0]), ENDLESS)


def is_run(book, value):
    """Tell whether any value is a run of the book."""
    return is_run_within(book, value, MOST_DEPTH)


def is_run_within(book, value, depth):
    """Tell whether any value is a run of the book that is nested at most so deep."""
    if depth == 0 or not isinstance(value, tuple):
        return False
    return all(is_step(book, step, depth) for step in value)


def is_step(book, value, depth):
    """Tell whether any value is a step of a run that is nested at most so deep."""
    if not isinstance(value, tuple):
        return False
    if len(value) == 2:
        return value[0] == "do" and is_integer(value[1]) and 0 <= value[1] < len(book[1])
    if len(value) != 3 or value[0] != "rep":
        return False
    if not is_integer(value[1]) or value[1] < 1 or value[2] == ():
        return False
    return is_run_within(book, value[2], depth - 1)


def move_index(book, name):
    """Return the index of the move with a name, or None."""
    for index, move in enumerate(book[1]):
        if move[0] == name:
            return index
    return None
