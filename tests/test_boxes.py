"""Tests of boxes, frontiers and borders: 6.1 to 6.4."""

import unittest
from itertools import product
from random import Random

from mintlaw.books import is_extended, is_stock
from mintlaw.boxes import border, box_stocks, frontier, is_border, without_end
from mintlaw.covering import greatest
from mintlaw.plans import end_of, is_plan
from mintlaw.prices import free_kinds
from mintlaw.texts import read_book
from tests.by_hand import covers_by_hand, is_chosen_by_hand, is_closed_by_hand
from tests.samples import BARE, CLOSED, MINT, NO_INTEGERS, SHOP, odd_values, some_book, spoilt

# Two of a make three, but only with one of b at hand; or five of b alone make one of a.
GROVE = read_book("kinds a b\ngrow: 2 a + 1 b -> 3 a + 1 b\nturn: 5 b -> 1 a")


def worlds(seed, many):
    """Return so many triples of a book, a kind and the greatest entry of a box."""
    dice = Random(seed)
    found = [(SHOP, 0, 3), (SHOP, 1, 6), (MINT, 2, 2), (MINT, 0, 2), (CLOSED, 1, 4), (BARE, 0, 3), (GROVE, 0, 6),
             (GROVE, 1, 6), (SHOP, 0, 0), (GROVE, 0, 1)]
    for _ in range(many):
        width = dice.randint(1, 3)
        book = some_book(dice, width, dice.randint(1, 4), dice.choice((1, 2, 3, 5)))
        found.append((book, dice.randrange(width), dice.randint(0, 6 if width < 3 else 3)))
    return found


def endless_by_hand(book, stock, k):
    """Tell whether a kind is without end from a stock."""
    return any(row[k] == -1 for row in greatest(book, stock))


def frontier_by_hand(book, k, b):
    """Return the frontier of a kind in a box, by looking at each stock."""
    stocks = list(product(range(b, -1, -1), repeat=len(book[0])))
    endless = [stock for stock in stocks if endless_by_hand(book, stock, k)]
    others = [stock for stock in stocks if stock not in endless]
    least = [row for row in endless if not any(covers_by_hand(row, other) and row != other for other in endless)]
    most = [row for row in others if not any(covers_by_hand(other, row) and row != other for other in others)]
    return least, most


def is_border_by_hand(book, k, b, value):
    """Tell whether a value is a right border; plans and rows are looked at by what is tested elsewhere."""
    if type(value) is not tuple or len(value) != 2 or not all(type(part) is tuple for part in value):
        return False
    if not all(type(pair) is tuple and len(pair) == 2 for part in value for pair in part):
        return False
    for part in value:
        stocks = [stock for stock, _ in part]
        if not all(is_stock(book, stock) and max(stock) <= b for stock in stocks) or not is_chosen_by_hand(stocks):
            return False
    for stock, plan in value[0]:
        if not is_plan(book, plan) or end_of(book, stock, plan) is None or end_of(book, stock, plan)[k] != -1:
            return False
    for stock, rows in value[1]:
        if type(rows) is not tuple or not all(is_extended(book, row) and row[k] != -1 for row in rows):
            return False
        if not is_closed_by_hand(book, stock, rows):
            return False
    for stock in product(range(b + 1), repeat=len(book[0])):
        if not any(covers_by_hand(stock, row) for row, _ in value[0]):
            if not any(covers_by_hand(row, stock) for row, _ in value[1]):
                return False
    return True


class BoxTests(unittest.TestCase):
    def test_stocks_of_boxes(self):
        self.assertEqual(box_stocks(SHOP, 1), [(1, 1), (1, 0), (0, 1), (0, 0)])
        self.assertEqual(box_stocks(BARE, 6), [(6,), (5,), (4,), (3,), (2,), (1,), (0,)])
        self.assertEqual(box_stocks(MINT, 0), [(0, 0, 0)])
        for book in (BARE, SHOP, MINT):
            for b in range(7):
                self.assertEqual(box_stocks(book, b), list(product(range(b, -1, -1), repeat=len(book[0]))))
        book = some_book(Random(1), 6, 3)
        self.assertEqual(len(box_stocks(book, 2)), 3 ** 6)

    def test_lists_are_new(self):
        box_stocks(SHOP, 1).append(None)
        frontier(SHOP, 0, 3)[0].append(None)
        self.assertEqual(len(box_stocks(SHOP, 1)), 4)
        self.assertEqual(frontier(SHOP, 0, 3), ([(2, 0)], [(1, 3)]))


class WithoutEndTests(unittest.TestCase):
    def test_examples(self):
        self.assertIs(without_end(SHOP, (2, 0), 0), True)
        self.assertIs(without_end(SHOP, (2, 0), 1), True)
        self.assertIs(without_end(SHOP, (1, 10 ** 30), 1), False)
        self.assertIs(without_end(MINT, (0, 1, 1), 2), True)
        self.assertIs(without_end(MINT, (10 ** 30, 1, 1), 0), False)
        self.assertIs(without_end(BARE, (10 ** 30,), 0), False)

    def test_by_the_greatest_extended_stocks(self):
        dice = Random(231)
        answers = []
        for book, k, _ in worlds(232, 150):
            stock = tuple(dice.randint(0, 6) for _ in book[0])
            answers.append(endless_by_hand(book, stock, k))
            self.assertIs(without_end(book, stock, k), answers[-1], (book, stock, k))
        self.assertTrue(30 < sum(answers) < 130, sum(answers))

    def test_stocks_that_cover_others(self):
        dice = Random(233)
        for book, k, _ in worlds(234, 80):
            stock = tuple(dice.randint(0, 4) for _ in book[0])
            if without_end(book, stock, k):
                for kind in range(len(stock)):
                    more = stock[:kind] + (stock[kind] + dice.randint(1, 9),) + stock[kind + 1:]
                    self.assertIs(without_end(book, more, k), True)


class FrontierTests(unittest.TestCase):
    def test_examples(self):
        self.assertEqual(frontier(SHOP, 1, 6), ([(2, 0)], [(1, 6)]))
        self.assertEqual(frontier(SHOP, 1, 1), ([], [(1, 1)]))
        self.assertEqual(frontier(MINT, 2, 2), ([(2, 0, 1), (0, 1, 1)], [(2, 2, 0), (1, 0, 2)]))
        self.assertEqual(frontier(MINT, 0, 2), ([], [(2, 2, 2)]))
        self.assertEqual(frontier(GROVE, 0, 6), ([(2, 1), (1, 6)], [(6, 0), (1, 5), (0, 6)]))
        self.assertEqual(frontier(BARE, 0, 3), ([], [(3,)]))
        book = read_book("kinds a\nm: nothing -> 1 a")
        self.assertEqual(frontier(book, 0, 4), ([(0,)], []))
        self.assertEqual(frontier(book, 0, 0), ([(0,)], []))

    def test_each_stock_of_the_box(self):
        sizes = []
        for book, k, b in worlds(235, 60):
            found = frontier(book, k, b)
            self.assertIs(type(found), tuple)
            self.assertEqual(found, frontier_by_hand(book, k, b), (book, k, b))
            sizes.append(len(found[0]) + len(found[1]))
        self.assertGreater(max(sizes), 4)

    def test_never_both(self):
        for book, k, b in worlds(236, 60):
            least, most = frontier(book, k, b)
            for stock in box_stocks(book, b):
                above = any(covers_by_hand(stock, row) for row in least)
                below = any(covers_by_hand(row, stock) for row in most)
                self.assertIs(above, not below)

    def test_wide_boxes(self):
        dice = Random(237)
        for width in (5, 6):
            book = some_book(dice, width, 6, 3)
            for k in range(width):
                self.assertTrue(is_border(book, k, 6, border(book, k, 6)))


class BorderTests(unittest.TestCase):
    def test_borders(self):
        free = 0
        for book, k, b in worlds(238, 80):
            found = border(book, k, b)
            self.assertTrue(is_border_by_hand(book, k, b, found), (book, k, b))
            self.assertIs(is_border(book, k, b, found), True)
            stocks = tuple([stock for stock, _ in part] for part in found)
            self.assertEqual(stocks, frontier(book, k, b))
            free += k in free_kinds(book)
        self.assertTrue(20 < free < 85, free)

    def test_borders_spoilt_in_one_place(self):
        answers = []
        for book, k, b in ((SHOP, 0, 3), (MINT, 2, 1), (CLOSED, 1, 1), (BARE, 0, 3), (GROVE, 0, 2), (SHOP, 1, 0)):
            found = border(book, k, b)
            for value in spoilt(found, (True, False, None, "", (), -1, 0, 1, 2, 4)):
                expected = is_border_by_hand(book, k, b, value)
                self.assertIs(is_border(book, k, b, value), expected, (book, k, b, value))
                answers.append(expected)
        self.assertTrue(0 < sum(answers) < 60, sum(answers))

    def test_pairs_left_out_or_twice_or_elsewhere(self):
        for book, k, b in worlds(239, 40):
            found = border(book, k, b)
            for side in range(2):
                for at, (stock, shown) in enumerate(found[side]):
                    part = found[side]
                    parts = [part[:at] + part[at + 1:], part[:at] + (part[at],) + part[at:], list(part),
                             (*part[:at], (stock, ()) if side else (stock, None), *part[at + 1:]),
                             (*part[:at], [stock, shown], *part[at + 1:]),
                             (*part[:at], (list(stock), shown), *part[at + 1:]),
                             (*part[:at], (stock, list(shown)), *part[at + 1:])]
                    if at > 0:
                        parts.append((*part[:at - 1], part[at], part[at - 1], *part[at + 1:]))
                    for entry in NO_INTEGERS:
                        parts.append((*part[:at], ((entry, *stock[1:]), shown), *part[at + 1:]))
                    for other in parts:
                        value = (other, found[1]) if side == 0 else (found[0], other)
                        self.assertIs(is_border(book, k, b, value), False, (book, k, b, value))
            self.assertIs(is_border(book, k, b, list(found)), False)

    def test_other_boxes_and_kinds(self):
        found = border(SHOP, 1, 3)
        self.assertEqual(tuple([stock for stock, _ in part] for part in found), ([(2, 0)], [(1, 3)]))
        self.assertIs(is_border(SHOP, 1, 3, found), True)
        self.assertIs(is_border(SHOP, 1, 2, found), False)
        self.assertIs(is_border(SHOP, 1, 4, found), False)
        self.assertIs(is_border(MINT, 1, 3, found), False)
        found = border(MINT, 2, 2)
        self.assertIs(is_border(MINT, 2, 2, found), True)
        self.assertIs(is_border(MINT, 0, 2, found), False)

    def test_stocks_that_are_not_the_frontier(self):
        plan = border(SHOP, 1, 3)[0][0][1]
        rows = border(SHOP, 1, 3)[1][0][1]
        for least, most in (((3, 0), (1, 3)), ((2, 1), (1, 3)), ((2, 0), (1, 2)), ((2, 0), (0, 3))):
            self.assertIs(is_border(SHOP, 1, 3, (((least, plan),), ((most, rows),))), False)
        # A further stock that covers another one, or is covered by one.
        self.assertIs(is_border(SHOP, 1, 3, ((((3, 0), plan), ((2, 0), plan)), (((1, 3), rows),))), False)
        self.assertIs(is_border(SHOP, 1, 3, ((((2, 0), plan),), (((1, 3), rows), ((1, 2), rows)))), False)
        # Rows that are closed but without end at the kind.
        self.assertIs(is_border(SHOP, 1, 3, ((((2, 0), plan),), (((1, 3), ((-1, -1),)),))), False)
        # They may be without end at other kinds.
        self.assertIs(is_border(MINT, 0, 0, ((), (((0, 0, 0), ((0, 0, -1),)),))), True)

    def test_any_values(self):
        for value in odd_values():
            self.assertIs(is_border(SHOP, 1, 3, value), False)
            self.assertIs(is_border(SHOP, 1, 3, (value, ())), False)
            self.assertIs(is_border(SHOP, 1, 3, ((), (((1, 3), value),))), False)


if __name__ == "__main__":
    unittest.main()
