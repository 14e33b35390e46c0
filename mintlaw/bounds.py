"""The best bound by prices: the price that holds a kind down the most, and what shows that none does better."""

from mintlaw.integers import are_fractions, are_integers
from mintlaw.prices import are_prices, gain, worth
from mintlaw.runs import move_change
from mintlaw.simplex import least_cost
from mintlaw.vectors import plus, reduced, scaled


def price_bound(book, stock, k):
    """Return (bound, prices, relaxed gain) of a stock for a bound kind, or None for a free one."""
    # The least worth of the stock by prices by which no move gains, and in which the kind has the price 1
    # (or more, which cannot be better). The stock is the cost, so it may be of any size here.
    rows = [scaled(move_change(book, m), -1) for m in range(len(book[1]))]
    rows.append(tuple([int(kind == k) for kind in range(len(book[0]))]))
    bounds = (0,) * len(book[1]) + (1,)
    answer = least_cost(rows, bounds, stock)
    if answer[0] == "none":
        return None
    _, (prices, _), (weights, over) = answer
    # The weights of the moves' rows tell how often each is made, and that of the last row is the reach.
    return bound_of(prices, stock, k), prices, (weights[:-1], over)


def bound_of(prices, stock, k):
    """Return the worth of a stock over the price of a kind as a pair without common factors."""
    return reduced((worth(prices, stock), prices[k]))


def is_price_bound(book, stock, k, value):
    """Tell whether any value is the bound by prices, right prices that give it, and a relaxed gain that reaches it."""
    if not isinstance(value, tuple) or len(value) != 3:
        return False
    bound, prices, relaxed = value
    if not are_integers(bound, 2, 0) or not are_prices(book, prices) or prices[k] == 0:
        return False
    if not are_fractions(relaxed, len(book[1])):
        return False
    together = relaxed_end(book, stock, relaxed)
    reach = reduced((together[k], relaxed[1]))
    return min(together) >= 0 and bound == bound_of(prices, stock, k) and bound == reach


def relaxed_end(book, stock, relaxed):
    """Return what a stock and a relaxed gain are together, times the denominator of the gain."""
    counts, over = relaxed
    return plus(scaled(stock, over), gain(book, counts))
