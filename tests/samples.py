"""Books, stocks, runs and odd values for the tests; the same ones in each test run."""

from random import Random

SMALL = "abcdefghijklmnopqrstuvwxyz"
GOOD_NAMES = ("a", "z9", "wood", "k1nds", "xx", "x1", "kind", "nothing1", "endles", "abcdefghijkl", "a23456789012")
BAD_NAMES = ("", "kinds", "nothing", "endless", "x", "1a", "9", "Wood", "wooD", "wo od", " wood", "wood ", "a_b", "a-b",
             "abcdefghijklm", "wood\n", "w\u00f6od", "\u00e4", "a\u00b2", "a\u0663", "a.b", "a:", "+")
NO_INTEGERS = (True, False, None, "1", "", (), (1,))

SHOP = (("wood", "gold"), (("saw", (2, 0), (3, 0), (3, 0)), ("sell", (5, 0), (0, 1), (0, 2))))
BARE = (("a",), ())
# A price of 2 for wood leaves a price from 3 to 4 for gold.
CLOSED = (("wood", "gold"), (("sell", (2, 0), (0, 1), (0, 1)), ("buy", (0, 2), (3, 0), (3, 0))))
# Wood and gold are turned to each other and nothing is gained; with gold in hand, a gem makes another one.
MINT = (
    ("wood", "gold", "gem"),
    (
        ("sell", (2, 0, 0), (0, 1, 0), (0, 1, 0)),
        ("melt", (0, 1, 0), (0, 0, 0), (2, 0, 0)),
        ("grow", (0, 1, 1), (0, 1, 2), (0, 1, 2)),
    ),
)
FULL = (
    ("a", "b2", "cc", "d", "e", "f"),
    (
        ("m0", (1, 0, 0, 0, 0, 0), (0, 0, 0, 0, 0, 0), (0, 0, 0, 0, 0, 0)),
        ("m1", (0, 0, 0, 0, 0, 0), (0, 0, 0, 0, 0, 1), (0, 0, 0, 0, 0, 1)),
        ("m2", (0, 0, 0, 0, 0, 0), (0, 0, 0, 0, 0, 0), (0, 0, 0, 0, 0, 0)),
        ("m3", (1000, 1000, 1000, 1000, 1000, 1000), (0, 0, 0, 0, 0, 0), (1000, 1000, 1000, 1000, 1000, 1000)),
        ("m4", (1, 2, 3, 4, 5, 6), (6, 5, 4, 3, 2, 1), (6, 6, 6, 6, 6, 6)),
        ("m5", (0, 7, 0, 0, 0, 0), (0, 0, 999, 0, 0, 0), (0, 0, 1000, 0, 0, 0)),
        ("m6", (0, 0, 0, 0, 0, 1), (0, 1, 0, 1, 0, 1), (1, 1, 1, 1, 1, 1)),
        ("abcdefghijkl", (0, 0, 1, 0, 0, 0), (1, 0, 0, 0, 0, 0), (2, 0, 0, 0, 0, 0)),
    ),
)
FULL_TEXT = """kinds a b2 cc d e f
m0: 1 a -> nothing
m1: nothing -> 1 f
m2: nothing -> nothing
m3: 1000 a + 1000 b2 + 1000 cc + 1000 d + 1000 e + 1000 f -> 0..1000 a + 0..1000 b2 + 0..1000 cc + 0..1000 d\
 + 0..1000 e + 0..1000 f
m4: 1 a + 2 b2 + 3 cc + 4 d + 5 e + 6 f -> 6 a + 5..6 b2 + 4..6 cc + 3..6 d + 2..6 e + 1..6 f
m5: 7 b2 -> 999..1000 cc
m6: 1 f -> 0..1 a + 1 b2 + 0..1 cc + 1 d + 0..1 e + 1 f
abcdefghijkl: 1 cc -> 1..2 a"""


def some_name(dice):
    """Return a right name."""
    while True:
        letters = [dice.choice(SMALL + "0123456789") for _ in range(dice.randint(0, 11))]
        name = dice.choice(SMALL) + "".join(letters)
        if name not in BAD_NAMES:
            return name


def some_names(dice, many):
    """Return so many right names, all different."""
    names = []
    while len(names) < many:
        name = some_name(dice)
        if name not in names:
            names.append(name)
    return names


def some_entries(dice, width, most):
    """Return a tuple of integers from 0 to `most`, many of them 0."""
    return tuple(dice.choice((0, 1, dice.randint(0, most), most)) for _ in range(width))


def some_book(dice, width, many, greatest=1000):
    """Return a right book of so many kinds and moves, with entries up to the greatest one."""
    names = some_names(dice, width + many)
    moves = []
    for name in names[width:]:
        take = some_entries(dice, width, greatest)
        most = some_entries(dice, width, greatest)
        least = tuple(dice.choice((high, dice.randint(0, high))) for high in most)
        moves.append((name, take, least, most))
    return (tuple(names[:width]), tuple(moves))


def some_run(dice, many, depth, most=10 ** 30):
    """Return a right run for so many moves, nested at most so deep, with counts up to `most`."""
    steps = []
    for _ in range(dice.randint(1, 3)):
        if depth > 1 and dice.random() < 0.4:
            times = dice.choice((1, 2, dice.randint(1, most), most))
            steps.append(("rep", times, some_run(dice, many, depth - 1, most)))
        else:
            steps.append(("do", dice.randrange(many)))
    return tuple(steps)


def nested_run(depth, innermost=(("do", 0),)):
    """Return a run that is nested so deep."""
    run = innermost
    for level in range(depth - 1):
        run = (("rep", level + 1, run),)
    return run


def right_books():
    """Return books of one to six kinds and up to eight moves."""
    dice = Random(11)
    books = [SHOP, BARE, FULL]
    for width in range(1, 7):
        for many in range(9):
            books.append(some_book(dice, width, many))
    return books


def right_stocks(book):
    """Return stocks of a book."""
    dice = Random(12)
    width = len(book[0])
    stocks = [(0,) * width, (10 ** 30,) * width]
    for most in (1, 9, 10, 1000, 10 ** 30):
        stocks.append(some_entries(dice, width, most))
    for at in range(width):
        stocks.append(tuple(int(k == at) for k in range(width)))
    return stocks


def right_extended(book):
    """Return extended stocks of a book, with entries without end among them."""
    dice = Random(13)
    width = len(book[0])
    rows = [(-1,) * width]
    for stock in right_stocks(book):
        rows.append(tuple(dice.choice((-1, entry)) for entry in stock))
    return rows


def right_runs(book):
    """Return runs of a book; a book without moves has the empty run alone."""
    dice = Random(14)
    many = len(book[1])
    if many == 0:
        return [()]
    runs = [(), (("do", many - 1),), (("rep", 1, (("do", 0),)),)]
    runs.extend(nested_run(depth) for depth in (1, 2, 3, 29, 30))
    runs.extend(some_run(dice, many, depth) for depth in (1, 2, 3, 4, 5, 6))
    return runs


def small_plays(seed, many):
    """Return so many triples of a book, a stock and a run that is short when it is played."""
    return some_plays(seed, many, (0, 3, 20, 3000), 4, (4,))


def great_plays(seed, many):
    """Return so many triples of a book, a stock and a run that may be very long."""
    return some_plays(seed, many, (10, 1000, 10 ** 9, 10 ** 20, 10 ** 60), 6, (10, 10 ** 9, 10 ** 20))


def some_plays(seed, many, units, depth, counts):
    """Return so many triples of a book, a stock with up to so many units, and a run with counts up to these."""
    dice = Random(seed)
    plays = []
    for _ in range(many):
        book = some_book(dice, dice.randint(1, 6), dice.randint(1, 8), dice.choice((1, 2, 3, 1000)))
        stock = some_entries(dice, len(book[0]), dice.choice(units))
        plays.append((book, stock, some_run(dice, len(book[1]), dice.randint(1, depth), dice.choice(counts))))
    return plays


def moves_of(run):
    """Return the list of the moves of a run that is short when it is played."""
    moves = []
    for step in run:
        moves.extend([step[1]] if step[0] == "do" else moves_of(step[2]) * step[1])
    return moves


def gains_of(book):
    """Return what each move gives at most, less what it takes."""
    return [tuple(more - units for more, units in zip(most, take)) for _, take, _, most in book[1]]


def in_form(value, width):
    """Tell whether a value is a tuple of so many integers from 0 on."""
    return type(value) is tuple and len(value) == width and all(type(entry) is int and entry >= 0 for entry in value)


def spoilt(value, others=(True, False, None, "", "1", (), -1)):
    """Return the values that differ from a value made of tuples in one place."""
    if not isinstance(value, tuple):
        return [other for other in others if repr(other) != repr(value)]
    values = [value[:at] + (other,) + value[at + 1:] for at in range(len(value)) for other in spoilt(value[at], others)]
    values.extend(value[:at] + value[at + 1:] for at in range(len(value)))
    return [*values, (*value, 0), (*value, ()), None, True, 0, ""]


def wrapped(value, times):
    """Return a value within so many tuples."""
    for _ in range(times):
        value = (value,)
    return value


def chained(head, depth):
    """Return tuples within tuples, so deep, each beginning with the same values."""
    value = 0
    for _ in range(depth):
        value = (*head, value)
    return value


def odd_values():
    """Return values that are no name, book, stock, extended stock or run of SHOP."""
    values = [None, True, False, 0, 1, -1, 10 ** 40, "", "wood!", "do", "rep", "kinds", (None,), (True,),
              (False, False), (((),),), ("do", 0), ("rep", 2, (("do", 0),)), ((("do", 0),),), ("wood", "gold"),
              (("wood", "gold"),), (("wood", "gold"), (), ()), ((), ()), ("", ""), (("do", "do"),),
              (("rep", (), ()),), ((None, 0),)]
    for innermost in ((), "do", 1, None, True, ("do", 0), (("do", 0),)):
        values.extend(wrapped(innermost, times) for times in (2, 3, 30, 31, 57, 77))
    for head in (("do",), ("rep", 2), ("rep",), ("wood",), (True, False)):
        values.extend(chained(head, depth) for depth in (1, 2, 3, 30, 60, 80))
    for innermost in (((),), ("do",), (("do", 2),), (None,), wrapped("do", 2)):
        values.append(nested_run(29, innermost))
    values.append(nested_run(31))
    values.append(nested_run(30, ()))
    return values
