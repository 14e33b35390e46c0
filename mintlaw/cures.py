"""Least cures: the fewest moves without which a free kind is bound."""

from mintlaw.choosing import ascending
from mintlaw.integers import is_integer
from mintlaw.prices import are_prices, gain, is_loop, parting_of_kind


def without(book, indexes):
    """Return the book without some moves."""
    kinds, moves = book
    return kinds, tuple([move for m, move in enumerate(moves) if m not in indexes])


def least_cure(book, k):
    """Return (the least cure, its paper) for a free kind, or None for a bound one."""
    loops = []
    for many in range(len(book[1]) + 1):
        for indexes in ascending(list(range(len(book[1]))), many):
            # A loop that makes none of these moves shows that the kind stays free.
            if all(is_hit(loop, indexes) for loop in loops):
                prices, loop = parting_of_kind(without(book, indexes), k)
                if prices[k] > 0:
                    return (indexes, (prices, tuple(loops))) if many > 0 else None
                loops.append(with_zeros(loop, indexes))
    return None


def is_hit(loop, indexes):
    """Tell whether a loop makes one of some moves."""
    return any(loop[m] > 0 for m in indexes)


def with_zeros(loop, indexes):
    """Return the loop of the book of a loop of the book without some moves."""
    entries = list(loop)
    # Ascending, so that each index is right when its turn comes.
    for m in indexes:
        entries.insert(m, 0)
    return tuple(entries)


def is_cure(book, k, value):
    """Tell whether any value is a pair of a tuple of indexes and a paper that shows that no cure is smaller."""
    if not isinstance(value, tuple) or len(value) != 2 or not isinstance(value[1], tuple) or len(value[1]) != 2:
        return False
    indexes, (prices, loops) = value
    if not are_indexes(book, indexes) or not are_prices(without(book, indexes), prices) or prices[k] == 0:
        return False
    if not isinstance(loops, tuple) or not all(is_loop(book, loop) and gain(book, loop)[k] > 0 for loop in loops):
        return False
    return not any([
        all(is_hit(loop, others) for loop in loops)
        for many in range(len(indexes))
        for others in ascending(list(range(len(book[1]))), many)
    ])


def are_indexes(book, value):
    """Tell whether any value is an ascending tuple of indexes of moves."""
    if not isinstance(value, tuple) or not all(is_integer(m) and 0 <= m < len(book[1]) for m in value):
        return False
    return list(value) == sorted(set(value))
