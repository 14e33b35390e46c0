"""Sessions: a book and a history, kept line by line."""

from mintlaw.books import MOST_MOVES, is_name, move_index
from mintlaw.cures import without
from mintlaw.errors import BadText
from mintlaw.histories import MOST_EVENTS, flow, is_in_range
from mintlaw.integers import print_number, read_number
from mintlaw.ledger import Ledger
from mintlaw.recalls import is_recall, refunds, strike
from mintlaw.runs import end_of_run, need, stops_at
from mintlaw.texts import MOST_NUMBER, print_stock, read_move, read_run, read_stock

# What stands behind the first word of a line: the last one of these takes all that is left of the line.
FORMS = {
    "make": ("name", "name", "name", "stock"),
    "hand": ("name", "name", "name", "stock"),
    "send": ("name", "name", "ticket", "stock"),
    "land": ("name", "name", "ticket"),
    "forge": ("name", "name", "stock"),
    "holding": ("name", "name"),
    "way": (),
    "strike": ("numbers",),
    "refunds": ("numbers",),
    "need": ("run",),
    "try": ("trial",),
    "add": ("move",),
    "drop": ("name",),
}
EVENTS = ("make", "hand", "send", "land", "forge")
NO_FORM = "no form"
NOTHING = "nothing"


class Session:
    """A book and a history; each right line adds to them or asks about them, and wrong lines change nothing."""

    def __init__(self, book):
        self._book = book
        self._history = ()
        self._ledger = Ledger(len(book[0]), ())

    def book(self):
        """Return the book as it is."""
        return self._book

    def history(self):
        """Return the history as it is."""
        return self._history

    def enter(self, line):
        """Handle a line and return the list of the lines of its answer."""
        words = line.split(" ")
        word = words[0]
        told = read_words(self._book, word, words[1:])
        if told is None:
            return [NO_FORM]
        if word in EVENTS:
            return [self.event_answer((word, *told))]
        if word == "add":
            return [self.add_answer(told[0])]
        if word == "drop":
            return [self.drop_answer(told[0])]
        return self.answers(word, told)

    def event_answer(self, told):
        """Add an event to the history if it can be carried out, and return the answer; its move is told by name."""
        if told[0] == "hand" and told[2] == told[3]:
            return NO_FORM
        if len(self._history) >= MOST_EVENTS:
            return "no room"
        event = told
        if told[0] == "make":
            m = move_index(self._book, told[3])
            if m is None:
                return "no move"
            if not is_in_range(self._book, m, told[4]):
                return "no range"
            event = (*told[:3], m, told[4])
        if told[0] in ("send", "land") and not self.has_ticket_for(event):
            return "no ticket"
        return self.carried_answer(event)

    def has_ticket_for(self, event):
        """Tell whether a send has a new ticket, or a land one that is under way."""
        if event[0] == "land":
            return event[3] in self._ledger.under_way
        return all(other[0] != "send" or other[3] != event[3] for other in self._history)

    def carried_answer(self, event):
        """Carry out an event and add it to the history if the units are there, and return the answer."""
        number = len(self._history)
        history = (*self._history, event)
        moved = flow(self._book, history, number)
        if not self._ledger.can_carry(event, moved):
            return "no units"
        self._ledger.carry(event, moved)
        self._history = history
        return f"event {number}"

    def add_answer(self, move):
        """Add a move to the book if there is a place for it, and return the answer."""
        kinds, moves = self._book
        if move[0] in kinds or move_index(self._book, move[0]) is not None:
            return "no name"
        if len(moves) >= MOST_MOVES:
            return "no room"
        self._book = (kinds, (*moves, move))
        return f"move {len(moves)}"

    def drop_answer(self, name):
        """Take a move out of the book if no event makes it, and return the answer."""
        m = move_index(self._book, name)
        if m is None:
            return "no move"
        if any(event[0] == "make" and event[3] == m for event in self._history):
            return "no use"
        self._book = without(self._book, (m,))
        self._history = tuple([without_move(event, m) for event in self._history])
        return f"dropped {m}"

    def answers(self, word, told):
        """Return the list of the lines that answer a question."""
        if word == "holding":
            return [print_stock(self._book, self._ledger.holding(tuple(told)))]
        if word == "way":
            return self.lines_of(self._ledger.ends()[1])
        if word in ("strike", "refunds"):
            return self.recall_answers(word, told[0])
        if word == "need":
            return [print_stock(self._book, need(self._book, told[0]))]
        stock, run = told[0]
        stop = stops_at(self._book, stock, run)
        if stop is None:
            return [f"end {print_stock(self._book, end_of_run(self._book, stock, run))}"]
        return [f"stops {print_number(stop)}"]

    def recall_answers(self, word, numbers):
        """Return the list of the lines that tell what a recall strikes, or which refunds it asks for."""
        if not is_recall(self._book, self._history, numbers):
            return ["no recall"]
        if word == "refunds":
            return self.lines_of(refunds(self._book, self._history, numbers))
        struck = strike(self._book, self._history, numbers)[0]
        return [" ".join(["struck", *[str(number) for number in struck]])]

    def lines_of(self, rows):
        """Return a list with a line for each row, whose last entry is a stock, or the line for no rows."""
        lines = [
            " ".join([*[str(entry) for entry in row[:-1]], print_stock(self._book, row[-1])])
            for row in rows
        ]
        return lines if lines != [] else [NOTHING]


def without_move(event, m):
    """Return an event as it is when a move that it does not make is taken out of the book."""
    if event[0] == "make" and event[3] > m:
        return (*event[:3], event[3] - 1, event[4])
    return event


def read_words(book, word, words):
    """Return the list of what the words behind the first word of a line tell, or None if the line has no form."""
    if word not in FORMS:
        return None
    wanted = FORMS[word]
    if wanted == ():
        return [] if words == [] else None
    last = len(wanted) - 1
    texts = [*words[:last], " ".join(words[last:])]
    found = [read_text(book, what, text) for what, text in zip(wanted, texts)]
    return None if None in found else found


def read_text(book, what, text):
    """Return what a text of this sort tells, or None if it is none."""
    if what == "name":
        return text if is_name(text) else None
    if what == "ticket":
        number = read_number(text, MOST_NUMBER)
        return None if number == 0 else number
    if what == "numbers":
        numbers = [read_number(word, MOST_NUMBER) for word in text.split(" ")]
        return None if None in numbers else tuple(numbers)
    if what == "move":
        return read_move(book[0], text)
    try:
        return read_stock_or_run(book, what, text)
    except BadText:
        return None


def read_stock_or_run(book, what, text):
    """Return the stock, the run, or both, of a text; raise BadText."""
    if what == "stock":
        return read_stock(book, text)
    if what == "run":
        return read_run(book, text)
    stock, _, run = text.partition(" : ")
    return read_stock(book, stock), read_run(book, run)
