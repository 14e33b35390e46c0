"""Histories for the tests, and carrying them out by hand; the same ones in each test run."""

from random import Random

from mintlaw.texts import read_book
from tests.samples import some_book

SHARDS = ("north", "south", "east")
PLAYERS = ("ann", "bob", "cy")
TRADE = read_book("kinds wood gold\nsaw: 2 wood -> 2..3 wood\nsell: 5 wood -> 1..2 gold")
# Forged wood is sawn, sold and sent on.
TALE = (
    ("forge", "north", "ann", (6, 0)),
    ("make", "north", "ann", 0, (3, 0)),
    ("make", "north", "ann", 1, (0, 2)),
    ("hand", "north", "ann", "bob", (0, 1)),
    ("send", "north", "bob", 7, (0, 1)),
    ("land", "south", "cy", 7),
    ("forge", "south", "cy", (1, 1)),
    ("send", "south", "cy", 3, (1, 2)),
)


def some_stock(dice, held):
    """Return a stock of at most what is held."""
    return tuple(dice.choice((0, dice.randint(0, entry), entry)) for entry in held)


class Tale:
    """A history that grows event by event, with what players hold; all its events can be carried out."""

    def __init__(self, book):
        self.book = book
        self.events = []
        self.held = {}
        self.way = {}
        self.tickets = 0

    def holding(self, holder):
        return self.held.get(holder, (0,) * len(self.book[0]))

    def move(self, holder, units, sign):
        self.held[holder] = tuple(entry + sign * more for entry, more in zip(self.holding(holder), units))

    def grow(self, dice):
        shard, player = dice.choice(SHARDS[:2]), dice.choice(PLAYERS)
        other = dice.choice([name for name in PLAYERS if name != player])
        held = self.holding((shard, player))
        word = dice.choice(("make", "make", "hand", "hand", "send", "land", "land", "forge"))
        moves = [m for m, move in enumerate(self.book[1]) if all(low <= entry for low, entry in zip(move[1], held))]
        if word == "make" and moves:
            m = dice.choice(moves)
            gives = tuple(dice.randint(low, high) for low, high in zip(*self.book[1][m][2:]))
            self.move((shard, player), self.book[1][m][1], -1)
            self.move((shard, player), gives, 1)
            self.events.append(("make", shard, player, m, gives))
        elif word == "hand":
            units = some_stock(dice, held)
            self.move((shard, player), units, -1)
            self.move((shard, other), units, 1)
            self.events.append(("hand", shard, player, other, units))
        elif word == "send":
            self.tickets += dice.randint(1, 3)
            units = some_stock(dice, held)
            self.move((shard, player), units, -1)
            self.way[self.tickets] = units
            self.events.append(("send", shard, player, self.tickets, units))
        elif word == "land" and self.way:
            ticket = dice.choice(sorted(self.way))
            self.move((shard, player), self.way.pop(ticket), 1)
            self.events.append(("land", shard, player, ticket))
        else:
            units = tuple(dice.choice((0, 1, 2, 5)) for _ in self.book[0])
            self.move((shard, player), units, 1)
            self.events.append(("forge", shard, player, units))

    def ends(self):
        rows = [(*holder, stock) for holder, stock in self.held.items() if max(stock) > 0]
        return tuple(sorted(rows)), tuple(sorted(self.way.items()))


def some_tale(dice, many, widest=3):
    """Return a tale of so many events, all of which can be carried out."""
    width = dice.randint(1, widest)
    tale = Tale(TRADE if dice.random() < 0.3 else some_book(dice, width, dice.randint(0, 5), dice.choice((1, 2, 3))))
    for _ in range(many):
        tale.grow(dice)
    return tale


def tales(seed, many, longest=25):
    """Return so many tales with up to so many events."""
    dice = Random(seed)
    return [some_tale(dice, dice.randint(0, longest)) for _ in range(many)]


def forgeries(history):
    """Return the numbers of the forgeries of a history."""
    return [number for number, event in enumerate(history) if event[0] == "forge"]


def some_recall(dice, history):
    """Return a recall of a history."""
    return tuple(number for number in forgeries(history) if dice.random() < 0.6)


def sent_by_hand(history):
    """Return the dict from the tickets of a history to the stocks that are sent with them."""
    return {event[3]: event[4] for event in history if event[0] == "send"}


def flow_by_hand(book, history, number):
    """Return who an event takes what from, and who it gives what to."""
    event = history[number]
    holder, nothing = event[1:3], (0,) * len(book[0])
    return {
        "make": lambda: (holder, book[1][event[3]][1], holder, event[-1]),
        "hand": lambda: (holder, event[-1], (event[1], event[3]), event[-1]),
        "send": lambda: (holder, event[-1], None, nothing),
        "land": lambda: (None, nothing, holder, sent_by_hand(history)[event[3]]),
        "forge": lambda: (None, nothing, holder, event[-1]),
    }[event[0]]()


def carried_by_hand(book, history, left_out=(), refunds=()):
    """Return ("ends", holdings, under way), or ("stops", number), of a history without some events, with refunds."""
    held = {(shard, player, kind): units for shard, player, stock in refunds for kind, units in enumerate(stock)}
    way = {}
    for number, event in enumerate(history):
        if number in left_out:
            continue
        taker, take, getter, give = flow_by_hand(book, history, number)
        if event[0] == "land":
            way.pop(event[3])
        for kind, units in enumerate(take):
            if taker is not None and held.get((*taker, kind), 0) < units:
                return "stops", number
        for kind, units in enumerate(take):
            if taker is not None:
                held[(*taker, kind)] = held.get((*taker, kind), 0) - units
        for kind, units in enumerate(give):
            if getter is not None:
                held[(*getter, kind)] = held.get((*getter, kind), 0) + units
        if event[0] == "send":
            way[event[3]] = take
    holders = sorted({(shard, player) for shard, player, _ in held})
    rows = [(*holder, tuple(held.get((*holder, kind), 0) for kind in range(len(book[0])))) for holder in holders]
    return "ends", tuple(row for row in rows if max(row[2]) > 0), tuple(sorted(way.items()))
