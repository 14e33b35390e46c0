"""Histories: what players make, hand over, send and forge, and what they hold in the end."""

from mintlaw.books import is_name, is_stock
from mintlaw.errors import BadLogs, NotPossible
from mintlaw.integers import is_integer
from mintlaw.ledger import Ledger
from mintlaw.runs import covers
from mintlaw.vectors import weighted_sum

MOST_EVENTS = 200


def is_history(book, value):
    """Tell whether any value is a history of the book."""
    if not isinstance(value, tuple) or len(value) > MOST_EVENTS:
        return False
    return all(is_event(book, event) for event in value) and tickets_fit(value)


def is_event(book, value):
    """Tell whether any value has the form of an event; its ticket is not looked at beyond that."""
    if not isinstance(value, tuple) or len(value) < 4 or not is_name(value[1]) or not is_name(value[2]):
        return False
    word, _, player, *rest = value
    if word == "make":
        return len(rest) == 2 and is_made(book, rest[0], rest[1])
    if word == "hand":
        return len(rest) == 2 and is_name(rest[0]) and rest[0] != player and is_stock(book, rest[1])
    if word == "send":
        return len(rest) == 2 and is_ticket(rest[0]) and is_stock(book, rest[1])
    if word == "land":
        return len(rest) == 1 and is_ticket(rest[0])
    return word == "forge" and len(rest) == 1 and is_stock(book, rest[0])


def is_made(book, m, gives):
    """Tell whether any values are the index of a move and a stock that it may give."""
    if not is_integer(m) or not 0 <= m < len(book[1]) or not is_stock(book, gives):
        return False
    return is_in_range(book, m, gives)


def is_in_range(book, m, gives):
    """Tell whether a move may give a stock."""
    _, _, least, most = book[1][m]
    return covers(gives, least) and covers(most, gives)


def is_ticket(value):
    """Tell whether any value is a ticket."""
    return is_integer(value) and value >= 1


def tickets_fit(history):
    """Tell whether each ticket of some events is sent once, and landed at most once, and later."""
    states = {}
    for event in history:
        if event[0] in ("send", "land"):
            before, behind = (None, "sent") if event[0] == "send" else ("sent", "landed")
            if states.get(event[3]) != before:
                return False
            states[event[3]] = behind
    return True


def flow(book, history, number):
    """Return (taker, take, getter, give) of an event."""
    nothing = (0,) * len(book[0])
    word, shard, player, *rest = history[number]
    holder = (shard, player)
    if word == "make":
        return holder, book[1][rest[0]][1], holder, rest[1]
    if word == "hand":
        return holder, rest[1], (shard, rest[0]), rest[1]
    if word == "send":
        return holder, rest[1], None, nothing
    if word == "land":
        return None, nothing, holder, sent_with(history, rest[0])
    return None, nothing, holder, rest[0]


def sent_with(history, ticket):
    """Return the stock that is sent with a ticket."""
    stocks = [event[4] for event in history if event[0] == "send" and event[3] == ticket]
    return stocks[0]


def flows(book, history):
    """Return the list of the flows of all events."""
    return [flow(book, history, number) for number in range(len(history))]


def carry_out(book, history):
    """Return (holdings, under way) at the end of a history; raise NotPossible if it is not carried out."""
    ledger = Ledger(len(book[0]), ())
    for number, event in enumerate(history):
        moved = flow(book, history, number)
        if not ledger.can_carry(event, moved):
            raise NotPossible(number)
        ledger.carry(event, moved)
    return ledger.ends()


def audit(book, history, prices):
    """Return the tuple of the gains of the events."""
    return tuple([
        0 if event[0] in ("send", "land") else weighted_sum(prices, moved[3]) - weighted_sum(prices, moved[1])
        for event, moved in zip(history, flows(book, history))
    ])


def logs_of(history):
    """Return the dict from the shards that occur to their logs."""
    logs = {}
    for number, event in enumerate(history):
        logs[event[1]] = logs.get(event[1], ()) + ((number, event),)
    return logs


def merged(logs):
    """Return the history of some logs; raise BadLogs if they are not those of one history."""
    events = {}
    for shard, log in logs.items():
        last = -1
        for number, event in log:
            if not is_integer(number) or number <= last or number in events or event[1] != shard:
                raise BadLogs("a log is not ascending, or has an event of another log")
            events[number] = event
            last = number
    if sorted(events) != list(range(len(events))):
        raise BadLogs("the numbers are not 0, 1, 2, ..")
    return tuple([events[number] for number in range(len(events))])
