"""Recalls: taking forged units out of a history, by striking events or by refunds."""

from mintlaw.books import is_name, is_stock
from mintlaw.choosing import Choosing
from mintlaw.histories import flow, flows
from mintlaw.integers import is_integer
from mintlaw.ledger import Ledger
from mintlaw.runs import greater
from mintlaw.vectors import less, plus, weighted_sum


def is_recall(book, history, value):
    """Tell whether any value is a recall of the history."""
    if not isinstance(value, tuple) or not all(is_integer(number) for number in value):
        return False
    if not all(0 <= number < len(history) and history[number][0] == "forge" for number in value):
        return False
    return list(value) == sorted(set(value))


def strike(book, history, recall):
    """Return (struck, holdings, under way): the numbers of the struck events, and what is there at the end."""
    ledger = Ledger(len(book[0]), ())
    struck = []
    for number in standing(history, recall):
        event, moved = history[number], flow(book, history, number)
        if ledger.can_carry(event, moved):
            ledger.carry(event, moved)
        else:
            struck.append(number)
    holdings, under_way = ledger.ends()
    return tuple(struck), holdings, under_way


def standing(history, left_out):
    """Return the list of the numbers of the events that are not left out."""
    return [number for number in range(len(history)) if number not in left_out]


def stands(book, history, recall, refunds):
    """Tell whether the history stands with refunds, without what is recalled."""
    return ends(book, history, recall, refunds) is not None


def ends(book, history, recall, refunds):
    """Return the holdings and what is under way at the end if the history stands with refunds, otherwise None."""
    ledger = Ledger(len(book[0]), refunds)
    for number in standing(history, recall):
        event, moved = history[number], flow(book, history, number)
        if not ledger.can_carry(event, moved):
            return None
        ledger.carry(event, moved)
    return ledger.ends()


def lacks(book, history, recall):
    """Return a list of tuples (number, taker, take, lack), for each event that takes and is not recalled.

    What lacks is what the event takes, less what the taker holds if all events before it are carried out
    without refunds; it is below 0 where more is there.
    """
    nothing = (0,) * len(book[0])
    holdings = {}
    found = []
    for number in standing(history, recall):
        taker, take, getter, give = flow(book, history, number)
        if taker is not None:
            lack = less(take, holdings.get(taker, nothing))
            found.append((number, taker, take, lack))
            holdings[taker] = less(nothing, lack)
        if getter is not None:
            holdings[getter] = plus(holdings.get(getter, nothing), give)
    return found


def refunds(book, history, recall):
    """Return the least refunds with which the history stands."""
    nothing = (0,) * len(book[0])
    found = {}
    for _, taker, _, lack in lacks(book, history, recall):
        found[taker] = greater(found.get(taker, nothing), lack)
    return tuple(sorted([(*taker, stock) for taker, stock in found.items() if stock != nothing]))


def refund_paper(book, history, recall):
    """Return the right paper of the least refunds with the least numbers of events."""
    found = lacks(book, history, recall)
    rows = []
    for shard, player, stock in refunds(book, history, recall):
        for kind, units in enumerate(stock):
            if units > 0:
                rows.append((shard, player, kind, min(numbers_that_lack(found, (shard, player), kind, units))))
    return tuple(rows)


def numbers_that_lack(found, taker, kind, units):
    """Return the numbers of the events that take something from a holding and lack just so many units of a kind."""
    return [
        number
        for number, other, take, lack in found
        if other == taker and lack[kind] == units and max(take) > 0
    ]


def check_refunds(book, history, recall, refunds, paper):
    """Tell whether any values are refunds and a right paper for them."""
    if not are_refunds(book, refunds) or not stands(book, history, recall, refunds):
        return False
    wanted = [
        (shard, player, kind, units)
        for shard, player, stock in refunds
        for kind, units in enumerate(stock)
        if units > 0
    ]
    if not isinstance(paper, tuple) or len(paper) != len(wanted):
        return False
    found = lacks(book, history, recall)
    return all([is_paper_row(found, row, entry) for row, entry in zip(paper, wanted)])


def is_paper_row(found, value, wanted):
    """Tell whether any value is the row of a paper for an entry of refunds, by what the events lack."""
    shard, player, kind, units = wanted
    if not isinstance(value, tuple) or len(value) != 4 or not is_integer(value[2]) or not is_integer(value[3]):
        return False
    return value[:3] == (shard, player, kind) and value[3] in numbers_that_lack(found, (shard, player), kind, units)


def are_refunds(book, value):
    """Tell whether any value has the form of refunds."""
    if not isinstance(value, tuple) or not all(is_refund(book, row) for row in value):
        return False
    holders = [row[:2] for row in value]
    return holders == sorted(set(holders))


def is_refund(book, value):
    """Tell whether any value has the form of the refund of one player in one shard."""
    if not isinstance(value, tuple) or len(value) != 3:
        return False
    return is_name(value[0]) and is_name(value[1]) and is_stock(book, value[2]) and max(value[2]) > 0


def cheapest(book, history, recall, prices, most):
    """Return (cost, choice): the choice of at most so many events to be left out that costs the least."""
    choosing = Choosing(history, flows(book, history), standing(history, recall), prices)
    best = None
    # Of several choices with the least cost the first one is kept: fewer numbers come first, then lesser tuples.
    for many in range(most + 1):
        for choice in choosing.choices(many):
            cost = choosing.cost_of(choice)
            if best is None or cost < best[0]:
                best = (cost, choice)
    return best
