"""Verdicts: the parting, the greatest extended stocks, and how much of each kind can ever be had."""

from mintlaw.books import is_run
from mintlaw.covering import is_report, most_among, report, run_of_report
from mintlaw.extended import END
from mintlaw.integers import is_integer
from mintlaw.plans import end_of
from mintlaw.prices import is_parting, parting
from mintlaw.runs import end_of_run


def verdict(book, stock):
    """Return a right verdict for a stock."""
    pairs = report(book, stock)
    answers = tuple([answer(book, stock, pairs, k) for k in range(len(book[0]))])
    return parting(book), pairs, answers


def answer(book, stock, pairs, k):
    """Return the answer for a kind by a right report."""
    most = most_among([row for row, _ in pairs], k)
    if most != END:
        return "most", most, run_of_report(book, stock, pairs, k)
    plans = [plan for row, plan in pairs if row[k] == END]
    return "end", plans[0]


def is_verdict(book, stock, value):
    """Tell whether any value is a right verdict for a stock."""
    if not isinstance(value, tuple) or len(value) != 3:
        return False
    parted, pairs, answers = value
    if not is_parting(book, parted) or not is_report(book, stock, pairs):
        return False
    if not isinstance(answers, tuple) or len(answers) != len(book[0]):
        return False
    rows = [row for row, _ in pairs]
    return all([is_answer(book, stock, rows, k, told) for k, told in enumerate(answers)])


def is_answer(book, stock, rows, k, value):
    """Tell whether any value is a right answer for a kind, by the greatest extended stocks."""
    if not isinstance(value, tuple) or len(value) < 2:
        return False
    word, *rest = value
    if word == "most" and len(rest) == 2:
        return is_most(book, stock, rows, k, rest)
    if word != "end" or len(rest) != 1:
        return False
    end = end_of(book, stock, rest[0])
    return end is not None and end[k] == END


def is_most(book, stock, rows, k, value):
    """Tell whether two values are the greatest number of a kind, and a run that leads to just this number."""
    number, run = value
    if not is_integer(number) or number != most_among(rows, k) or number == END or not is_run(book, run):
        return False
    end = end_of_run(book, stock, run)
    return end is not None and end[k] == number
