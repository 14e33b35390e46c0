"""Tests of prices, loops and the parting of kinds (4.1 to 4.6)."""

import unittest
from itertools import product
from random import Random

from mintlaw.books import is_run
from mintlaw.prices import are_prices, free_kinds, gain, is_loop, is_parting, loop_run, parting, worth
from mintlaw.runs import change, end_of_run, length, need
from mintlaw.texts import read_book, read_run
from tests.samples import (
    BARE, CLOSED, FULL, MINT, NO_INTEGERS, SHOP, gains_of, in_form, odd_values, right_books, right_stocks, some_book,
    spoilt,
)

def many_books():
    """Return books of one to six kinds and up to eight moves, with small and with great entries."""
    dice = Random(61)
    books = [*right_books(), MINT, CLOSED]
    for width in range(1, 7):
        for many in range(9):
            books.extend(some_book(dice, width, many, greatest) for greatest in (1, 2, 5, 1000))
    return books


def right_prices(book, prices):
    """Tell whether integers are prices by which no move gains, by hand."""
    return all(sum(price * more for price, more in zip(prices, row)) <= 0 for row in gains_of(book))


def gain_by_hand(book, loop):
    """Return the gain of a loop."""
    rows = gains_of(book)
    return tuple(sum(many * row[kind] for many, row in zip(loop, rows)) for kind in range(len(book[0])))


def parts(book, value):
    """Tell whether a value is a parting, by hand."""
    if type(value) is not tuple or len(value) != 2:
        return False
    prices, loop = value
    if not in_form(prices, len(book[0])) or not in_form(loop, len(book[1])) or not right_prices(book, prices):
        return False
    gains = gain_by_hand(book, loop)
    return min(gains) >= 0 and all(price > 0 or more > 0 for price, more in zip(prices, gains))


class PriceTests(unittest.TestCase):
    def test_worth(self):
        self.assertEqual(worth((2, 5), (3, 4)), 26)
        self.assertEqual(worth((0, 0), (3, 4)), 0)
        self.assertEqual(worth((10 ** 30, 1), (10 ** 30, 7)), 10 ** 60 + 7)
        for book in right_books():
            for stock in right_stocks(book):
                self.assertEqual(worth((1,) * len(stock), stock), sum(stock))

    def test_right_prices(self):
        self.assertIs(are_prices(CLOSED, (1, 1)), False)
        self.assertIs(are_prices(CLOSED, (2, 2)), False)
        self.assertIs(are_prices(CLOSED, (2, 3)), True)
        self.assertIs(are_prices(CLOSED, (2, 4)), True)
        self.assertIs(are_prices(CLOSED, (2, 5)), False)
        self.assertIs(are_prices(CLOSED, (2 * 10 ** 40, 3 * 10 ** 40)), True)
        self.assertIs(are_prices(CLOSED, (2 * 10 ** 40, 3 * 10 ** 40 - 1)), False)
        self.assertIs(are_prices(CLOSED, (0, 0)), True)

    def test_the_most_is_what_counts(self):
        book = read_book("kinds wood gold\nsell: 5 wood -> 1..2 gold")
        self.assertIs(are_prices(book, (2, 5)), True)
        self.assertIs(are_prices(book, (1, 5)), False)

    def test_all_small_prices(self):
        for book in many_books():
            if len(book[0]) <= 3:
                for prices in product(range(4), repeat=len(book[0])):
                    self.assertIs(are_prices(book, prices), right_prices(book, prices), (book, prices))

    def test_books_without_moves(self):
        self.assertIs(are_prices(BARE, (0,)), True)
        self.assertIs(are_prices(BARE, (10 ** 50,)), True)
        self.assertIs(are_prices(BARE, (-1,)), False)

    def test_values_that_are_no_prices(self):
        for value in ((-2, -3), (2, -1), (0, -1), (2, 3, 0), (2,), (), [2, 3], *spoilt((2, 3), (*NO_INTEGERS, -1))):
            self.assertIs(are_prices(CLOSED, value), False, value)
        for value in odd_values():
            self.assertIs(are_prices(CLOSED, value), False, value)
            if not isinstance(value, int) or isinstance(value, bool):
                self.assertIs(are_prices(BARE, (value,)), False, value)
        self.assertIs(are_prices(BARE, (True,)), False)


class LoopTests(unittest.TestCase):
    def test_gains(self):
        self.assertEqual(gain(SHOP, (6, 1)), (1, 2))
        self.assertEqual(gain(SHOP, (5, 1)), (0, 2))
        self.assertEqual(gain(SHOP, (4, 1)), (-1, 2))
        self.assertEqual(gain(SHOP, (0, 10 ** 40)), (-5 * 10 ** 40, 2 * 10 ** 40))
        self.assertEqual(gain(BARE, ()), (0,))
        dice = Random(62)
        for book in many_books():
            self.assertEqual(gain(book, (0,) * len(book[1])), (0,) * len(book[0]))
            loop = tuple(dice.randint(0, 10 ** 20) for _ in book[1])
            self.assertEqual(gain(book, loop), gain_by_hand(book, loop))

    def test_right_loops(self):
        for loop, answer in (((0, 0), True), ((5, 1), True), ((4, 1), False), ((10 ** 40, 0), True), ((0, 1), False)):
            self.assertIs(is_loop(SHOP, loop), answer)
        self.assertIs(is_loop(BARE, ()), True)

    def test_all_small_loops(self):
        for book in many_books():
            if len(book[1]) <= 3:
                for loop in product(range(4), repeat=len(book[1])):
                    self.assertIs(is_loop(book, loop), min(gain_by_hand(book, loop)) >= 0, (book, loop))

    def test_values_that_are_no_loops(self):
        for value in ((5, -1), (-1, 0), (6, 1, 0), (6,), (), [6, 1], *spoilt((6, 1), (*NO_INTEGERS, -1))):
            self.assertIs(is_loop(SHOP, value), False, value)
        for value in odd_values():
            self.assertIs(is_loop(SHOP, value), False, value)
            self.assertIs(is_loop(BARE, value), value == (), value)
        self.assertIs(is_loop(FULL, (0, 0, 0, 0, 0, 0, 0, True)), False)

    def test_with_right_prices_nothing_is_gained_and_nothing_lost(self):
        dice = Random(63)
        for book in many_books():
            prices, loop = parting(book)
            for _ in range(5):
                some_prices = tuple(dice.randint(0, 3) for _ in book[0])
                some_loop = tuple(dice.randint(0, 3) for _ in book[1])
                for right in ([prices] if not are_prices(book, some_prices) else [prices, some_prices]):
                    for turn in ([loop] if not is_loop(book, some_loop) else [loop, some_loop]):
                        rows = zip(right, gain(book, turn))
                        self.assertTrue(all(more == 0 for price, more in rows if price > 0))


class PartingTests(unittest.TestCase):
    def test_each_kind_has_a_price_or_a_gain(self):
        ways = set()
        for book in many_books():
            prices, loop = parting(book)
            self.assertTrue(parts(book, (prices, loop)), (book, prices, loop))
            self.assertIs(is_parting(book, (prices, loop)), True)
            gains = gain_by_hand(book, loop)
            for price, more in zip(prices, gains):
                self.assertIs(price > 0, more == 0)
            free = tuple(kind for kind, more in enumerate(gains) if more > 0)
            self.assertEqual(free_kinds(book), free)
            ways.add((len(book[0]), len(free)))
        self.assertGreater(len(ways), 20)

    def test_examples(self):
        self.assertEqual(free_kinds(SHOP), (0, 1))
        self.assertEqual(free_kinds(BARE), ())
        self.assertEqual(free_kinds(CLOSED), ())
        self.assertEqual(free_kinds(MINT), (2,))
        self.assertEqual(free_kinds((("a", "b"), (("m", (0, 0), (0, 0), (0, 1)),))), (1,))
        self.assertEqual(free_kinds((("a", "b"), (("m", (0, 0), (0, 0), (0, 0)),))), ())

    def test_great_entries_with_nothing_to_spare(self):
        # Where 998 are taken, 1000 turns of the first move and 999 of the second one gain one unit.
        for take, free in ((997, (0, 1)), (998, (0, 1)), (999, ()), (1000, ())):
            book = (("a", "b"), (("m", (take, 0), (0, 0), (0, 999)), ("n", (0, 1000), (0, 0), (999, 0))))
            self.assertEqual(free_kinds(book), free)
            self.assertTrue(parts(book, parting(book)))

    def test_spoilt_partings(self):
        for book in (SHOP, MINT, CLOSED, BARE, FULL):
            value = parting(book)
            others = (True, False, None, "", "1", (), -1, 0, 1, 2, 7, 10 ** 9)
            answers = []
            for wrong in spoilt(value, others):
                answers.append(is_parting(book, wrong))
                self.assertIs(answers[-1], parts(book, wrong), (book, wrong))
            self.assertIn(False, answers)

    def test_partings_that_leave_a_kind_out(self):
        self.assertIs(is_parting(MINT, ((1, 2, 0), (0, 0, 0))), False)
        self.assertIs(is_parting(MINT, ((0, 0, 0), (1, 1, 1))), False)
        self.assertIs(is_parting(MINT, ((1, 2, 0), (1, 1, 0))), False)
        self.assertIs(is_parting(CLOSED, ((2, 3), (0, 0))), True)
        self.assertIs(is_parting(CLOSED, ((0, 0), (0, 0))), False)
        self.assertIs(is_parting(CLOSED, ((2, 5), (0, 0))), False)
        self.assertIs(is_parting(CLOSED, ((2, 3), (1, 1))), False)
        self.assertIs(is_parting(SHOP, ((0, 0), (6, 1))), True)
        self.assertIs(is_parting(SHOP, ((0, 0), (5, 1))), False)
        self.assertIs(is_parting(SHOP, ((1, 0), (6, 1))), False)

    def test_other_values(self):
        for book in (SHOP, BARE, MINT):
            for value in odd_values():
                self.assertIs(is_parting(book, value), False)
                self.assertIs(is_parting(book, (value, parting(book)[1])), False)
                self.assertIs(is_parting(book, (parting(book)[0], value)), book == BARE and value == ())
        self.assertIs(is_parting(BARE, ((True,), ())), False)
        self.assertIs(is_parting(BARE, [(1,), ()]), False)


class LoopRunTests(unittest.TestCase):
    def test_examples(self):
        self.assertEqual(loop_run(SHOP, (0, 0)), ())
        self.assertEqual(loop_run(SHOP, (1, 1)), (("do", 0), ("do", 1)))
        self.assertEqual(loop_run(SHOP, (0, 2)), (("rep", 2, (("do", 1),)),))
        self.assertEqual(loop_run(SHOP, (10 ** 40, 1)), (("rep", 10 ** 40, (("do", 0),)), ("do", 1)))
        self.assertEqual(loop_run(SHOP, (6, 1)), read_run(SHOP, "6 x (saw); sell"))
        self.assertEqual(loop_run(BARE, ()), ())
        run = read_run(FULL, "m1; 2 x (m3); m4; 3 x (abcdefghijkl)")
        self.assertEqual(loop_run(FULL, (0, 1, 0, 2, 1, 0, 0, 3)), run)

    def test_any_loops(self):
        dice = Random(64)
        for book in many_books():
            loop = tuple(dice.choice((0, 1, 2, dice.randint(0, 10 ** 20))) for _ in book[1])
            run = loop_run(book, loop)
            self.assertTrue(is_run(book, run))
            self.assertEqual(length(run), sum(loop))
            self.assertEqual(change(book, run), gain(book, loop))

    def test_it_can_be_played_again_and_again(self):
        for book in many_books():
            loop = parting(book)[1]
            run = loop_run(book, loop)
            stock = need(book, run)
            for _ in range(3):
                end = end_of_run(book, stock, run)
                self.assertIsNotNone(end)
                for more, entry, before in zip(gain(book, loop), end, stock):
                    self.assertGreaterEqual(entry, before + more)
                stock = end
            if run != ():
                end = end_of_run(book, need(book, run), (("rep", 10 ** 50, run),))
                for kind in free_kinds(book):
                    self.assertGreaterEqual(end[kind], 10 ** 50)


class BoundTests(unittest.TestCase):
    def test_a_bound_kind_is_never_above_its_worth(self):
        for book in many_books():
            prices, _ = parting(book)
            for start in ((1,) * len(book[0]), (7,) * len(book[0])):
                seen = [start]
                for stock in seen:
                    for kind, price in enumerate(prices):
                        if price > 0:
                            self.assertLessEqual(stock[kind], worth(prices, start) // price)
                    for m in range(len(book[1])):
                        end = end_of_run(book, stock, (("do", m),))
                        if end is not None and end not in seen and len(seen) < 40:
                            seen.append(end)

    def test_a_closed_book(self):
        self.assertIs(are_prices(CLOSED, (2, 3)), True)
        stock = (9, 0)
        for words in ("4 x (sell)", "4 x (sell); 2 x (buy)", "4 x (sell); 2 x (buy); 3 x (sell)"):
            end = end_of_run(CLOSED, stock, read_run(CLOSED, words))
            self.assertLessEqual(end[0], worth((2, 3), stock) // 2)
            self.assertLessEqual(end[1], worth((2, 3), stock) // 3)


if __name__ == "__main__":
    unittest.main()
