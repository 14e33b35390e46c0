"""Tests of the best bound by prices (4.7)."""

import unittest
from fractions import Fraction
from itertools import product
from random import Random

from mintlaw.bounds import is_price_bound, price_bound
from mintlaw.prices import free_kinds
from mintlaw.runs import end_of_run
from tests.samples import (
    BARE, CLOSED, FULL, MINT, NO_INTEGERS, SHOP, gains_of, in_form, odd_values, right_books, right_stocks, some_book,
    some_entries, spoilt,
)

def many_cases():
    """Return triples of a book, a stock and a kind, with small and with great entries."""
    dice = Random(71)
    books = [SHOP, BARE, FULL, CLOSED, MINT]
    for width in range(1, 7):
        for many in (0, 1, 2, 4, 8):
            books.extend(some_book(dice, width, many, greatest) for greatest in (1, 3, 1000))
    cases = []
    for book in books:
        for greatest in (0, 1, 9, 10 ** 30):
            stock = some_entries(dice, len(book[0]), greatest)
            cases.extend((book, stock, k) for k in range(len(book[0])))
    return cases


def holds_by_hand(book, stock, k, prices):
    """Return the bound that right prices with a price for a kind give, or None."""
    if not in_form(prices, len(book[0])) or prices[k] == 0:
        return None
    if any(sum(price * more for price, more in zip(prices, row)) > 0 for row in gains_of(book)):
        return None
    return Fraction(sum(price * have for price, have in zip(prices, stock)), prices[k])


def reach_by_hand(book, stock, k, relaxed):
    """Return the reach of a relaxed gain, or None."""
    if type(relaxed) is not tuple or len(relaxed) != 2 or not in_form(relaxed[0], len(book[1])):
        return None
    if not in_form(relaxed[1:], 1) or relaxed[1] == 0:
        return None
    ends = [
        have + sum(Fraction(many * row[kind], relaxed[1]) for many, row in zip(relaxed[0], gains_of(book)))
        for kind, have in enumerate(stock)
    ]
    return ends[k] if min(ends) >= 0 else None


def is_bound_by_hand(book, stock, k, value):
    """Tell whether a value is the bound by prices with what shows it."""
    if type(value) is not tuple or len(value) != 3 or not in_form(value[0], 2) or value[0][1] == 0:
        return False
    bound = Fraction(*value[0])
    if (bound.numerator, bound.denominator) != value[0]:
        return False
    return bound == holds_by_hand(book, stock, k, value[1]) == reach_by_hand(book, stock, k, value[2])


class PriceBoundTests(unittest.TestCase):
    def test_bound_and_free_kinds(self):
        free = bound = 0
        for book, stock, k in many_cases():
            value = price_bound(book, stock, k)
            if k in free_kinds(book):
                free += 1
                self.assertIsNone(value)
            else:
                bound += 1
                self.assertTrue(is_bound_by_hand(book, stock, k, value), (book, stock, k, value))
                self.assertIs(is_price_bound(book, stock, k, value), True)
        self.assertGreater(free, 100)
        self.assertGreater(bound, 100)

    def test_examples(self):
        self.assertEqual(price_bound(CLOSED, (9, 0), 0)[0], (9, 1))
        self.assertEqual(price_bound(CLOSED, (0, 5), 0)[0], (15, 2))
        self.assertEqual(price_bound(CLOSED, (9, 0), 1)[0], (9, 2))
        self.assertEqual(price_bound(CLOSED, (10 ** 40, 10 ** 40), 1)[0], (3 * 10 ** 40 // 2, 1))
        self.assertEqual(price_bound(CLOSED, (0, 0), 1)[0], (0, 1))
        self.assertEqual(price_bound(BARE, (7,), 0)[0], (7, 1))
        self.assertEqual(price_bound(MINT, (5, 1, 9), 1)[0], (7, 2))
        self.assertIsNone(price_bound(MINT, (0, 0, 0), 2))
        self.assertIsNone(price_bound(SHOP, (0, 0), 0))
        self.assertIsNone(price_bound(SHOP, (5, 5), 1))

    def test_stocks_of_any_size(self):
        for book in right_books():
            for stock in right_stocks(book):
                for k in range(len(book[0])):
                    value = price_bound(book, stock, k)
                    if value is not None:
                        self.assertTrue(is_bound_by_hand(book, stock, k, value), (book, stock, k, value))

    def test_no_small_prices_are_better(self):
        for book, stock, k in many_cases():
            if len(book[0]) <= 3:
                value = price_bound(book, stock, k)
                for prices in product(range(5), repeat=len(book[0])):
                    bound = holds_by_hand(book, stock, k, prices)
                    if bound is not None:
                        self.assertLessEqual(Fraction(*value[0]), bound)

    def test_no_small_relaxed_gain_reaches_more(self):
        for book, stock, k in many_cases():
            value = price_bound(book, stock, k)
            if len(book[1]) <= 2 and value is not None:
                for counts in product(range(4), repeat=len(book[1])):
                    for over in (1, 2, 3):
                        reach = reach_by_hand(book, stock, k, (counts, over))
                        if reach is not None:
                            self.assertLessEqual(reach, Fraction(*value[0]))

    def test_never_more_than_the_bound(self):
        for book, start, k in many_cases():
            value = price_bound(book, start, k)
            if value is not None:
                seen = [start]
                for stock in seen:
                    self.assertLessEqual(stock[k], value[0][0] // value[0][1])
                    for m in range(len(book[1])):
                        end = end_of_run(book, stock, (("do", m),))
                        if end is not None and end not in seen and len(seen) < 15:
                            seen.append(end)


class CheckTests(unittest.TestCase):
    def test_answers_spoilt_in_one_place(self):
        others = (*NO_INTEGERS, -1, 0, 1, 2, 3, 10 ** 9)
        wrong = 0
        for book, stock, k in many_cases()[::3]:
            value = price_bound(book, stock, k)
            if value is not None:
                for other in spoilt(value, others):
                    expected = is_bound_by_hand(book, stock, k, other)
                    self.assertIs(is_price_bound(book, stock, k, other), expected, (book, stock, k, other))
                    wrong += not expected
        self.assertGreater(wrong, 1000)

    def test_examples(self):
        right = ((9, 2), (1, 2), ((9, 0), 2))
        self.assertIs(is_price_bound(CLOSED, (9, 0), 1, right), True)
        for bound in ((18, 4), (-9, -2), (4, 1), (5, 1), (10, 2), (9, True), (9, 2, 1), (9,), 9, (0, 0), (9, 0)):
            self.assertIs(is_price_bound(CLOSED, (9, 0), 1, (bound, *right[1:])), False, bound)
        for prices, answer in (((2, 4), True), ((10 ** 40, 2 * 10 ** 40), True), ((2, 3), False), ((1, 1), False),
                               ((0, 0), False), ((2, 5), False), ((1, 2, 0), False), ((-1, -2), False)):
            self.assertIs(is_price_bound(CLOSED, (9, 0), 1, (right[0], prices, right[2])), answer, prices)
        for relaxed, answer in ((((18, 0), 4), True), (((9 * 10 ** 40, 0), 2 * 10 ** 40), True), (((8, 0), 2), False),
                                (((4, 0), 1), False), (((10, 0), 2), False), (((9, 0), 0), False), ((9, 0), False),
                                (((-9, 0), -2), False), (((9, 1), 2), False), (((9, 0, 0), 2), False),
                                (((9, 0),), False)):
            self.assertIs(is_price_bound(CLOSED, (9, 0), 1, (*right[:2], relaxed)), answer, relaxed)

    def test_a_relaxed_gain_needs_no_right_loop_but_no_entry_below_zero(self):
        # Selling all wood is no right loop. To sell more than there is reaches more, but is no relaxed gain.
        self.assertIs(is_price_bound(CLOSED, (9, 0), 1, ((5, 1), (1, 2), ((5, 0), 1))), False)
        self.assertIs(is_price_bound(CLOSED, (10, 0), 1, ((5, 1), (1, 2), ((5, 0), 1))), True)
        self.assertIs(is_price_bound(CLOSED, (10, 0), 0, ((10, 1), (2, 3), ((0, 0), 1))), True)

    def test_equal_to_one_is_not_enough(self):
        self.assertIs(is_price_bound(BARE, (1,), 0, ((1, 1), (1,), ((), 1))), True)
        for value in spoilt(((1, 1), (1,), ((), 1)), (True, False)):
            self.assertIs(is_price_bound(BARE, (1,), 0, value), False, value)
        self.assertIs(is_price_bound(BARE, (0,), 0, ((0, 1), (1,), ((), 1))), True)
        self.assertIs(is_price_bound(BARE, (0,), 0, ((False, 1), (1,), ((), 1))), False)

    def test_free_kinds(self):
        for value in (None, ((9, 2), (1, 2), ((9, 0), 2)), ((0, 1), (0, 0), ((0, 0), 1)),
                      ((0, 1), (0, 1), ((0, 0), 1))):
            self.assertIs(is_price_bound(SHOP, (0, 0), 0, value), False)
            self.assertIs(is_price_bound(SHOP, (0, 0), 1, value), False)

    def test_other_values(self):
        right = price_bound(CLOSED, (9, 0), 1)
        for value in odd_values():
            self.assertIs(is_price_bound(CLOSED, (9, 0), 1, value), False)
            self.assertIs(is_price_bound(BARE, (1,), 0, value), False)
            for at in range(3):
                self.assertIs(is_price_bound(CLOSED, (9, 0), 1, right[:at] + (value,) + right[at + 1:]), False)
        self.assertIs(is_price_bound(CLOSED, (9, 0), 1, list(right)), False)


if __name__ == "__main__":
    unittest.main()
