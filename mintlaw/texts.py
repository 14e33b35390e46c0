"""The texts of books, stocks, extended stocks and runs, and reading them."""

from mintlaw.books import ENDLESS, MOST_DEPTH, MOST_UNITS, NAME_SIGNS, is_book, is_move, move_index
from mintlaw.errors import BadText
from mintlaw.integers import print_number, read_number

MOST_NUMBER = 10 ** 30


def print_stock(book, stock):
    """Return the text of a stock or an extended stock."""
    return print_items([
        f"{print_entry(entry)} {kind}"
        for kind, entry in zip(book[0], stock)
        if entry != 0
    ])


def print_items(items):
    """Return the text of a list of items, which may be empty."""
    return " + ".join(items) if items else "nothing"


def print_entry(entry):
    """Return the word for an entry of an extended stock."""
    return "endless" if entry == ENDLESS else print_number(entry)


def print_book(book):
    """Return the text of a book."""
    kinds, moves = book
    lines = ["kinds " + " ".join(kinds)]
    for name, take, least, most in moves:
        lines.append(f"{name}: {print_stock(book, take)} -> {print_give(kinds, least, most)}")
    return "\n".join(lines)


def print_give(kinds, least, most):
    """Return the text of what a move gives."""
    return print_items([
        f"{print_range(low, high)} {kind}"
        for kind, low, high in zip(kinds, least, most)
        if high != 0
    ])


def print_range(low, high):
    """Return the word for the numbers from `low` to `high`."""
    if low == high:
        return print_number(high)
    return f"{print_number(low)}..{print_number(high)}"


def print_run(book, run):
    """Return the text of a run."""
    return "; ".join([print_step(book, step) for step in run]) if run else "nothing"


def print_step(book, step):
    """Return the text of a step of a run."""
    if step[0] == "do":
        return book[1][step[1]][0]
    return f"{print_number(step[1])} x ({print_run(book, step[2])})"


def read_book(text):
    """Return the book of a text; raise BadText with the number of the first wrong line."""
    lines = text.split("\n")
    words = lines[0].split(" ")
    book = (tuple(words[1:]), ())
    if words[0] != "kinds" or not is_book(book):
        raise BadText(1)
    for number, line in enumerate(lines[1:], start=2):
        # A line that is wrong in itself adds None, which is_book refuses like any wrong move.
        book = (book[0], book[1] + (read_move(book[0], line),))
        if not is_book(book):
            raise BadText(number)
    return book


def read_move(kinds, line):
    """Return the move of a line of a book with these kinds, or None."""
    # Where ": " or " -> " is missing, what stands behind it is read as empty, which is wrong.
    name, _, lists = line.partition(": ")
    take, _, give = lists.partition(" -> ")
    taken = read_entries(kinds, take, MOST_UNITS)
    given = read_ranges(kinds, give, MOST_UNITS)
    if taken is None or given is None:
        return None
    least = tuple([low for low, high in given])
    most = tuple([high for low, high in given])
    move = (name, taken, least, most)
    return move if is_move(move, len(kinds)) else None


def read_stock(book, text):
    """Return the stock of a text; raise BadText(1) if it is none."""
    entries = read_extended(book, text)
    if ENDLESS in entries:
        raise BadText(1)
    return entries


def read_extended(book, text):
    """Return the extended stock of a text; raise BadText(1) if it is none."""
    entries = read_entries(book[0], text, MOST_NUMBER)
    if entries is None:
        raise BadText(1)
    return entries


def read_entries(kinds, text, most):
    """Return the extended stock of a text with numbers up to `most`, or None."""
    ranges = read_ranges(kinds, text, most)
    if ranges is None or any([low != high for low, high in ranges]):
        return None
    return tuple([low for low, high in ranges])


def read_ranges(kinds, text, most):
    """Return a pair (least, most) for each kind of a list of items, or None."""
    words = read_items(kinds, text)
    if words is None:
        return None
    ranges = [read_range(words[kind], most) if kind in words else (0, 0) for kind in kinds]
    return None if None in ranges else ranges


def read_items(kinds, text):
    """Return the dict from the kinds in a list of items to the words before them, or None."""
    words = {}
    if text == "nothing":
        return words
    for item in text.split(" + "):
        word, _, kind = item.partition(" ")
        if kind not in kinds or kind in words:
            return None
        words[kind] = word
    return words


def read_range(word, most):
    """Return the pair (least, most) that the word of an item tells, or None."""
    if word == "endless":
        return (ENDLESS, ENDLESS)
    low_word, dots, high_word = word.partition("..")
    low = read_number(low_word, most)
    if dots == "":
        return None if low is None or low == 0 else (low, low)
    high = read_number(high_word, most)
    if low is None or high is None or low >= high:
        return None
    return (low, high)


def read_run(book, text):
    """Return the run of a text; raise BadText(1) if it is none."""
    if text == "nothing":
        return ()
    run, at = read_steps(book, text, 0, MOST_DEPTH)
    if at != len(text):
        raise BadText(1)
    return run


def read_steps(book, text, at, depth):
    """Return the steps from a place in a text on, nested at most so deep, and the place behind."""
    if depth == 0:
        raise BadText(1)
    step, at = read_step(book, text, at, depth)
    steps = [step]
    while text[at:at + 2] == "; ":
        step, at = read_step(book, text, at + 2, depth)
        steps.append(step)
    return tuple(steps), at


def read_step(book, text, at, depth):
    """Return the step at a place in a text, and the place behind it."""
    word = word_at(text, at)
    at += len(word)
    move = move_index(book, word)
    if move is not None:
        return ("do", move), at
    times = read_number(word, MOST_NUMBER)
    if times is None or times == 0 or text[at:at + 4] != " x (":
        raise BadText(1)
    run, at = read_steps(book, text, at + 4, depth - 1)
    if text[at:at + 1] != ")":
        raise BadText(1)
    return ("rep", times, run), at + 1


def word_at(text, at):
    """Return the small letters and digits that stand at a place in a text."""
    end = at
    while end < len(text) and text[end] in NAME_SIGNS:
        end += 1
    return text[at:end]
