"""Prices and loops: which kinds are bound by prices, and which ones are gained by loops."""

from mintlaw.books import is_stock
from mintlaw.integers import are_integers
from mintlaw.runs import move_change
from mintlaw.simplex import least_cost
from mintlaw.vectors import plus, weighted_sum


def worth(prices, stock):
    """Return the sum of price times number."""
    return weighted_sum(prices, stock)


def are_prices(book, value):
    """Tell whether any value is right prices for the book."""
    if not is_stock(book, value):
        return False
    return all([weighted_sum(value, move_change(book, m)) <= 0 for m in range(len(book[1]))])


def is_loop(book, value):
    """Tell whether any value is a right loop for the book."""
    return are_integers(value, len(book[1]), 0) and min(gain(book, value)) >= 0


def gain(book, loop):
    """Return the gain of any loop, for each kind."""
    return tuple([weighted_sum(loop, changes) for changes in changes_by_kind(book)])


def changes_by_kind(book):
    """Return for each kind the tuple of what each move changes of it."""
    changes = [move_change(book, m) for m in range(len(book[1]))]
    return tuple([tuple([row[kind] for row in changes]) for kind in range(len(book[0]))])


def parting(book):
    """Return right prices and a right loop such that each kind has a price or a gain above 0."""
    prices = (0,) * len(book[0])
    loop = (0,) * len(book[1])
    for kind in range(len(book[0])):
        if prices[kind] == 0 and gain(book, loop)[kind] == 0:
            more_prices, more_moves = parting_of_kind(book, kind)
            prices = plus(prices, more_prices)
            loop = plus(loop, more_moves)
    return prices, loop


def parting_of_kind(book, kind):
    """Return right prices and a right loop such that this kind has a price or a gain above 0."""
    rows = changes_by_kind(book)
    bounds = tuple([int(at == kind) for at in range(len(rows))])
    answer = least_cost(rows, bounds, (0,) * len(book[1]))
    # No loop gains the kind just if some sum of the rows has no entry above 0 and this row in it:
    # then the weights of the rows are prices by which no move gains.
    if answer[0] == "none":
        return answer[1], (0,) * len(book[1])
    return (0,) * len(rows), answer[1][0]


def is_parting(book, value):
    """Tell whether any value is right prices and a right loop that part all kinds."""
    if not isinstance(value, tuple) or len(value) != 2:
        return False
    prices, loop = value
    if not are_prices(book, prices) or not is_loop(book, loop):
        return False
    return all([price > 0 or more > 0 for price, more in zip(prices, gain(book, loop))])


def free_kinds(book):
    """Return the ascending tuple of the indexes of the free kinds."""
    gains = gain(book, parting(book)[1])
    return tuple([kind for kind, more in enumerate(gains) if more > 0])


def loop_run(book, loop):
    """Return the run that makes each move of the book as often as a loop says, in the order of the moves."""
    return tuple([loop_step(m, loop[m]) for m in range(len(book[1])) if loop[m] > 0])


def loop_step(m, times):
    """Return the step that makes a move so many times, from 1 on."""
    return ("do", m) if times == 1 else ("rep", times, (("do", m),))
