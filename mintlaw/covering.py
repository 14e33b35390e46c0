"""The greatest extended stocks of a stock: what can ever be had from it."""

from mintlaw.books import is_extended
from mintlaw.extended import END, changed_by, in_order, place_in_order
from mintlaw.plans import end_of, run_for
from mintlaw.rows import Rows
from mintlaw.runs import covers, move_change
from mintlaw.search import Search, plan_to


def greatest(book, stock):
    """Return the list of the greatest extended stocks, in order."""
    return [place.label for place in greatest_places(Search(book), stock)]


def report(book, stock):
    """Return a right report: the greatest extended stocks in order, each with a plan that ends with it."""
    return tuple([(place.label, plan_to(place)) for place in greatest_places(Search(book), stock)])


def greatest_places(search, stock):
    """Return the list of the places of a search with the greatest extended stocks of a stock, in order."""
    rows = Rows()
    places = []
    # What covers another extended stock comes before it in order.
    for place in sorted(search.places(stock), key=order_of_place):
        if not rows.has_cover(place.label):
            rows.add(place.label)
            places.append(place)
    return places


def order_of_place(place):
    """Return the key by which places are sorted by their extended stocks."""
    return place_in_order(place.label)


def is_closed(book, stock, rows):
    """Tell whether any value is a tuple of extended stocks that is closed for the stock."""
    if not isinstance(rows, tuple) or not all(is_extended(book, row) for row in rows):
        return False
    known = {row: True for row in rows}
    tree = Rows()
    for row in known:
        tree.add(row)
    if not tree.has_cover(stock):
        return False
    return all(label in known or tree.has_cover(label) for label in labels_behind(book, rows))


def labels_behind(book, rows):
    """Return the list of the extended stocks behind all moves that are allowed for some extended stocks."""
    found = {}
    for m in range(len(book[1])):
        needed, changed = book[1][m][1], move_change(book, m)
        for row in rows:
            if covers(row, needed):
                found[changed_by(row, changed)] = True
    return list(found)


def is_report(book, stock, value):
    """Tell whether any value is a right report for the stock."""
    if not isinstance(value, tuple) or not all(is_pair(pair) for pair in value):
        return False
    rows = tuple([row for row, _ in value])
    if not is_closed(book, stock, rows) or not is_chosen(rows):
        return False
    return all(end_of(book, stock, plan) == row for row, plan in value)


def is_pair(value):
    """Tell whether any value is a tuple of two."""
    return isinstance(value, tuple) and len(value) == 2


def is_chosen(rows):
    """Tell whether extended stocks are in order and none of them covers another one."""
    if list(rows) != in_order(rows):
        return False
    tree = Rows()
    for row in rows:
        # What is covered by another one comes behind it, or is the same.
        if tree.has_cover(row):
            return False
        tree.add(row)
    return True


def most_of(book, stock, k):
    """Return the greatest number of a kind that can ever be had, or END."""
    return most_among(greatest(book, stock), k)


def most_among(rows, k):
    """Return the greatest entry of some extended stocks at a kind."""
    entries = [row[k] for row in rows]
    return END if END in entries else max(entries)


def run_to_most(book, stock, k):
    """Return a run to a stock with the greatest number of a kind, or None if it is without end."""
    return run_of_report(book, stock, report(book, stock), k)


def run_of_report(book, stock, pairs, k):
    """Return a run to the greatest number of a kind by a right report, or None if it is without end."""
    most = most_among([row for row, _ in pairs], k)
    if most == END:
        return None
    plans = [plan for row, plan in pairs if row[k] == most]
    return run_for(book, stock, plans[0], 0)
