"""The texts of plans and verdicts, reading them, and checking them without searching."""

from mintlaw.errors import BadText
from mintlaw.integers import print_number, read_number
from mintlaw.texts import print_run, print_stock, read_extended, read_run
from mintlaw.verdicts import is_verdict

GREATEST_NUMBER = 10 ** 40
BY = " by "
TOP = "top "


def print_plan(book, plan):
    """Return the text of a plan."""
    return " > ".join([f"{word} {print_run(book, run)}" for word, run in plan]) if plan else "nothing"


def print_verdict(book, verdict):
    """Return the text of a verdict."""
    (prices, loop), pairs, answers = verdict
    lines = [print_numbers("prices", prices), print_numbers("loop", loop)]
    for row, plan in pairs:
        lines.append(f"{TOP}{print_stock(book, row)}{BY}{print_plan(book, plan)}")
    for kind, answer in zip(book[0], answers):
        lines.append(print_answer(book, kind, answer))
    return "\n".join(lines)


def print_numbers(word, numbers):
    """Return the line of a word and some numbers."""
    return " ".join([word, *[print_number(number) for number in numbers]])


def print_answer(book, kind, answer):
    """Return the line of the answer for a kind."""
    if answer[0] == "end":
        return f"endless {kind}{BY}{print_plan(book, answer[1])}"
    return f"most {kind} {print_number(answer[1])}{BY}{print_run(book, answer[2])}"


def read_plan(book, text):
    """Return the plan of a text; raise BadText(1) if it is none."""
    if text == "nothing":
        return ()
    return tuple([read_part(book, part) for part in text.split(" > ")])


def read_part(book, text):
    """Return the part of a plan of a text; raise BadText(1) if it is none."""
    word, _, run_text = text.partition(" ")
    run = read_run(book, run_text)
    if word not in ("run", "pump") or run == ():
        raise BadText(1)
    return word, run


def read_verdict(book, text):
    """Return what the text of a verdict stands for; raise BadText with the number of the first wrong line."""
    lines = text.split("\n")
    tops = tops_among(lines)
    many = 2 + tops + len(book[0])
    found = []
    for at in range(many):
        told = read_line(book, tops, at, lines[at]) if at < len(lines) else None
        if told is None:
            raise BadText(at + 1)
        found.append(told)
    if len(lines) > many:
        raise BadText(many + 1)
    return (found[0], found[1]), tuple(found[2:2 + tops]), tuple(found[2 + tops:])


def tops_among(lines):
    """Return how many lines of the report there are, behind those of the prices and the loop."""
    at = 2
    while at < len(lines) and lines[at].startswith(TOP):
        at += 1
    return at - 2


def read_line(book, tops, at, line):
    """Return what a line stands for in a text with so many lines of the report, or None if it is wrong."""
    kinds, moves = book
    try:
        if at == 0:
            return read_numbers("prices", len(kinds), line)
        if at == 1:
            return read_numbers("loop", len(moves), line)
        if at < 2 + tops:
            return read_top(book, line)
        return read_answer(book, kinds[at - 2 - tops], line)
    except BadText:
        return None


def read_numbers(word, many, line):
    """Return the tuple of so many numbers in a line behind a word; raise BadText(1) if it is not such a line."""
    words = line.split(" ")
    numbers = [read_number(other, GREATEST_NUMBER) for other in words[1:]]
    if words[0] != word or len(numbers) != many or None in numbers:
        raise BadText(1)
    return tuple(numbers)


def parted_by(book, text):
    """Return what stands before and behind the word that parts a line; one of them is empty if it is missing."""
    # A kind of this name may stand before the word, a move of this name behind it, and no book has both.
    if "by" in book[0]:
        head, _, tail = text.rpartition(BY)
    else:
        head, _, tail = text.partition(BY)
    return head, tail


def read_top(book, line):
    """Return the pair of a report that a line stands for; raise BadText(1) if it is none."""
    stock_text, plan_text = parted_by(book, line[len(TOP):])
    row = read_extended(book, stock_text)
    # The items may be in any order for read_extended.
    if print_stock(book, row) != stock_text:
        raise BadText(1)
    return row, read_plan(book, plan_text)


def read_answer(book, kind, line):
    """Return the answer for a kind that a line stands for; raise BadText(1) if it is none."""
    head, tail = parted_by(book, line)
    words = head.split(" ")
    if words == ["endless", kind]:
        return "end", read_plan(book, tail)
    number = read_number(words[-1], GREATEST_NUMBER)
    if words[:-1] != ["most", kind] or number is None:
        raise BadText(1)
    return "most", number, read_run(book, tail)


def check_text(book, stock, text):
    """Tell whether a text is that of a right verdict for a stock."""
    try:
        told = read_verdict(book, text)
    except BadText:
        return False
    return is_verdict(book, stock, told)
