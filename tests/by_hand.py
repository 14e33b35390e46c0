"""What can be had from a stock, worked out for the tests by making the moves one by one."""

from random import Random

from mintlaw.books import is_extended
from mintlaw.plans import is_plan
from tests.samples import moves_of, some_book, some_entries


def covers_by_hand(row, other):
    """Tell whether an extended stock covers another one."""
    return all(high == -1 or (low != -1 and high >= low) for high, low in zip(row, other))


def behind_move(book, label, m):
    """Return the extended stock behind a move, or None if it is not allowed."""
    _, take, _, most = book[1][m]
    if not covers_by_hand(label, take):
        return None
    return tuple(-1 if entry == -1 else entry - less + more for entry, less, more in zip(label, take, most))


def reached(book, stock, limit):
    """Return the set of all stocks to which a run leads from a stock, or None if there are more than a limit."""
    known = {stock}
    waiting = [stock]
    while waiting:
        label = waiting.pop()
        for m in range(len(book[1])):
            other = behind_move(book, label, m)
            if other is not None and other not in known:
                known.add(other)
                waiting.append(other)
        if len(known) > limit:
            return None
    return known


def greatest_of(rows):
    """Return those stocks that no other one covers, greater entries first."""
    kept = []
    for row in sorted(rows, reverse=True):
        if not any(covers_by_hand(other, row) for other in kept):
            kept.append(row)
    return kept


def is_closed_by_hand(book, stock, rows):
    """Tell whether extended stocks are closed for a stock."""
    if not any(covers_by_hand(row, stock) for row in rows):
        return False
    for row in rows:
        for m in range(len(book[1])):
            label = behind_move(book, row, m)
            if label is not None and not any(covers_by_hand(other, label) for other in rows):
                return False
    return True


def end_by_hand(book, stock, plan):
    """Return the end of a plan whose runs are short, or None if a part is not allowed."""
    label = stock
    for word, run in plan:
        before = label
        for m in moves_of(run):
            label = behind_move(book, label, m)
            if label is None:
                return None
        if word == "pump":
            if any(entry < low for entry, low in zip(label, before)):
                return None
            label = tuple(-1 if entry > low else low for entry, low in zip(label, before))
    return label


def order_by_hand(row):
    """Return the key by which extended stocks are in order."""
    return [(0, 0) if entry == -1 else (1, -entry) for entry in row]


def is_chosen_by_hand(rows):
    """Tell whether extended stocks are in order, and none of them covers another one."""
    if [order_by_hand(row) for row in rows] != sorted(order_by_hand(row) for row in rows):
        return False
    places = range(len(rows))
    return not any(covers_by_hand(rows[at], rows[other]) for at in places for other in places if at != other)


def is_report_by_hand(book, stock, value):
    """Tell whether a value is a right report whose runs are short."""
    if type(value) is not tuple or not all(type(pair) is tuple and len(pair) == 2 for pair in value):
        return False
    if not all(is_extended(book, row) and is_plan(book, plan) for row, plan in value):
        return False
    rows = [row for row, _ in value]
    if not is_closed_by_hand(book, stock, rows) or not is_chosen_by_hand(rows):
        return False
    return all(end_by_hand(book, stock, plan) == row for row, plan in value)


def small_worlds(seed, many, widest=4):
    """Return so many pairs of a book and a stock with small entries."""
    dice = Random(seed)
    pairs = []
    for _ in range(many):
        width = dice.randint(1, widest)
        book = some_book(dice, width, dice.randint(0, 5), dice.choice((1, 1, 2, 3)))
        pairs.append((book, some_entries(dice, width, dice.choice((1, 3, 6)))))
    return pairs


def few_worlds(seed, many, limit=150):
    """Return so many tuples of a book, a stock and the set of all stocks that are reached, which are few."""
    worlds = []
    for book, stock in small_worlds(seed, many * 6):
        rows = reached(book, stock, limit)
        if rows is not None and len(worlds) < many:
            worlds.append((book, stock, rows))
    assert len(worlds) == many, len(worlds)
    return worlds


def losing_book(dice, many, top):
    """Return a book of six kinds with so many moves, by each of which worth is lost at some prices."""
    prices = [dice.randint(1, 9) for _ in range(6)]
    moves = []
    while len(moves) < many:
        take, most = (tuple(dice.randint(1, top) if dice.random() < 0.35 else 0 for _ in range(6)) for _ in range(2))
        before, behind = (sum(price * units for price, units in zip(prices, stock)) for stock in (take, most))
        if before * 3 < behind * 4 and behind < before:
            moves.append((f"m{len(moves)}", take, most, most))
    return (tuple("abcdef"), tuple(moves))


def with_gain(dice, book):
    """Return a book with a further move, which gains something."""
    take = tuple(dice.randint(1, 9) if dice.random() < 0.3 else 0 for _ in range(6))
    at = dice.randrange(6)
    most = take[:at] + (take[at] + dice.randint(1, 5),) + take[at + 1:]
    return (book[0], (*book[1], ("gain", take, most, most)))
