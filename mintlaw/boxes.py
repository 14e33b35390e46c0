"""From how much on a kind is without end: boxes of stocks, and the frontier of a kind in a box."""

from mintlaw.books import is_stock
from mintlaw.covering import greatest_places, is_chosen, is_closed, is_pair
from mintlaw.extended import END, in_order
from mintlaw.plans import end_of
from mintlaw.prices import free_kinds
from mintlaw.runs import covers
from mintlaw.search import Search, plan_to


def box_stocks(book, b):
    """Return the list of the stocks whose entries are at most b, in order."""
    stocks = [()]
    for _ in book[0]:
        stocks = [(*stock, entry) for stock in stocks for entry in reversed(range(b + 1))]
    return stocks


def without_end(book, stock, k):
    """Tell whether a kind is without end from a stock."""
    return Frontier(book, k, 0).has_end(stock)


class Frontier:
    """What is known of a box: the least stocks from which a kind is without end, and the greatest other ones."""

    def __init__(self, book, k, b):
        self.search = Search(book)
        self.wanted = tuple([END if kind == k else 0 for kind in range(len(book[0]))])
        self.is_free = k in free_kinds(book)
        self.top = b
        self.least = []
        self.greatest = []

    def has_end(self, stock):
        """Tell whether the kind is without end from a stock."""
        if not self.is_free or any(covers(other, stock) for other in self.greatest):
            return False
        if any(covers(stock, other) for other in self.least):
            return True
        return self.search.place_of(stock, self.wanted) is not None

    def settle(self, low, high):
        """Find what tells of each stock between two of the box whether the kind is without end from it."""
        if is_told(low, high, self.least, self.greatest):
            return
        if low != high:
            for part_low, part_high in halves(low, high):
                self.settle(part_low, part_high)
        elif self.has_end(low):
            # All stocks that it covers have had their turn before: it is a least one.
            self.least.append(low)
        else:
            self.greatest.append(self.increased(low))

    def increased(self, stock):
        """Return a greatest stock of the box that covers a stock and from which the kind is still not without end."""
        for kind in range(len(stock)):
            high = self.top
            while stock[kind] < high:
                middle = (stock[kind] + high + 1) // 2
                more_stock = with_entry(stock, kind, middle)
                if self.has_end(more_stock):
                    high = middle - 1
                else:
                    stock = more_stock
        return stock

    def plan_from(self, stock):
        """Return a plan for a stock to what is without end at the kind."""
        return plan_to(self.search.place_of(stock, self.wanted))

    def rows_from(self, stock):
        """Return a tuple of extended stocks that is closed for a stock."""
        return tuple([place.label for place in greatest_places(self.search, stock)])


def with_entry(stock, kind, entry):
    """Return a stock with another entry at a kind."""
    return stock[:kind] + (entry,) + stock[kind + 1:]


def halves(low, high):
    """Return two pairs of stocks that part the stocks between two different ones."""
    widths = [entry - other for entry, other in zip(high, low)]
    kind = widths.index(max(widths))
    middle = (low[kind] + high[kind]) // 2
    return (low, with_entry(high, kind, middle)), (with_entry(low, kind, middle + 1), high)


def is_told(low, high, least, most):
    """Tell whether all stocks between two cover one and the same stock, or are all covered by one and the same."""
    return any(covers(low, stock) for stock in least) or any(covers(stock, high) for stock in most)


def is_all_told(low, high, least, most):
    """Tell whether each stock between two covers some stock, or is covered by some."""
    if is_told(low, high, least, most):
        return True
    # The others tell nothing of any stock between the two.
    least = [stock for stock in least if covers(high, stock)]
    most = [stock for stock in most if covers(stock, low)]
    return low != high and all(
        is_all_told(part_low, part_high, least, most)
        for part_low, part_high in halves(low, high)
    )


def box_ends(book, b):
    """Return the least and the greatest stock of a box."""
    return (0,) * len(book[0]), (b,) * len(book[0])


def settled(book, k, b):
    """Return what is known of a box when all is found."""
    found = Frontier(book, k, b)
    low, high = box_ends(book, b)
    found.settle(low, high)
    return found


def frontier(book, k, b):
    """Return the pair of lists of the least and the greatest stocks of the frontier of a kind in a box."""
    found = settled(book, k, b)
    return in_order(found.least), in_order(found.greatest)


def border(book, k, b):
    """Return a right border: the frontier, with a plan for each least stock and closed rows for each greatest one."""
    found = settled(book, k, b)
    plans = tuple([(stock, found.plan_from(stock)) for stock in in_order(found.least)])
    return plans, tuple([(stock, found.rows_from(stock)) for stock in in_order(found.greatest)])


def is_border(book, k, b, value):
    """Tell whether any value is a right border of a kind in a box."""
    if not is_pair(value) or not all(are_box_pairs(book, b, part) for part in value):
        return False
    plans, bounds = value
    if not all([has_end_by(book, stock, plan, k) for stock, plan in plans]):
        return False
    if not all([has_no_end_by(book, stock, rows, k) for stock, rows in bounds]):
        return False
    low, high = box_ends(book, b)
    return is_all_told(low, high, [stock for stock, _ in plans], [stock for stock, _ in bounds])


def are_box_pairs(book, b, value):
    """Tell whether any value is a tuple of pairs of a stock of a box and something, in order, none covering another."""
    if not isinstance(value, tuple) or not all(is_pair(pair) for pair in value):
        return False
    stocks = [stock for stock, _ in value]
    return all(is_stock(book, stock) and max(stock) <= b for stock in stocks) and is_chosen(stocks)


def has_end_by(book, stock, plan, k):
    """Tell whether any value is a plan for a stock to what is without end at a kind."""
    end = end_of(book, stock, plan)
    return end is not None and end[k] == END


def has_no_end_by(book, stock, rows, k):
    """Tell whether any value is rows that are closed for a stock, and none of them without end at a kind."""
    return is_closed(book, stock, rows) and all(row[k] != END for row in rows)
