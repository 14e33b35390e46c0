"""Tests of play: moves, needs, changes, lengths and ends of runs (2.1 to 2.3)."""

import unittest
from itertools import product
from random import Random

from mintlaw.runs import can_do, change, covers, done, end_of_run, length, need
from mintlaw.texts import read_book, read_run
from tests.samples import (
    BARE, FULL, SHOP, great_plays, moves_of, nested_run, right_books, right_runs, right_stocks, small_plays, some_book,
    some_run,
)


def one_less(stock, at):
    """Return a stock with one unit less at an entry."""
    return stock[:at] + (stock[at] - 1,) + stock[at + 1:]


def played(book, stock, moves):
    """Return the stocks that moves lead to, one by one, as far as they can be done."""
    stocks = [stock]
    for m in moves:
        _, take, _, most = book[1][m]
        if any(have < units for have, units in zip(stocks[-1], take)):
            break
        stocks.append(tuple(have - units + more for have, units, more in zip(stocks[-1], take, most)))
    return stocks


class CoversTests(unittest.TestCase):
    def test_stocks(self):
        for stock, other, answer in (((0,), (0,), True), ((3, 0), (2, 1), False), ((3, 1), (2, 1), True),
                                     ((2, 1), (3, 1), False), ((10 ** 40, 0), (10 ** 40, 0), True),
                                     ((10 ** 40, 0), (10 ** 40 + 1, 0), False)):
            self.assertIs(covers(stock, other), answer)

    def test_extended_stocks(self):
        for stock, other, answer in (((-1,), (-1,), True), ((-1,), (10 ** 50,), True), ((10 ** 50,), (-1,), False),
                                     ((0,), (-1,), False), ((-1, 0), (5, 0), True), ((-1, 0), (5, 1), False),
                                     ((-1, 3), (-1, 3), True), ((3, -1), (-1, 3), False)):
            self.assertIs(covers(stock, other), answer)

    def test_all_small_ones(self):
        order = {0: 0, 1: 1, 2: 2, -1: 3}
        for row in product(order, repeat=2):
            for other in product(order, repeat=2):
                expected = order[row[0]] >= order[other[0]] and order[row[1]] >= order[other[1]]
                self.assertIs(covers(row, other), expected, (row, other))


class MoveTests(unittest.TestCase):
    def test_moves_from_just_what_they_take(self):
        for book in right_books():
            for m, (_, take, _, most) in enumerate(book[1]):
                self.assertIs(can_do(book, take, m), True)
                self.assertEqual(done(book, take, m), most)
                for at in range(len(take)):
                    if take[at] > 0:
                        self.assertIs(can_do(book, one_less(take, at), m), False)

    def test_the_most_is_given(self):
        self.assertEqual(done(SHOP, (5, 1), 1), (0, 3))
        self.assertEqual(done(SHOP, (10 ** 30, 0), 0), (10 ** 30 + 1, 0))

    def test_moves_that_cannot_be_done(self):
        self.assertEqual(done(SHOP, (0, 0), 0), (1, 0))
        self.assertEqual(done(SHOP, (1, 7), 1), (-4, 9))
        self.assertIs(can_do(SHOP, (4, 1000), 1), False)

    def test_moves_that_take_nothing(self):
        self.assertIs(can_do(FULL, (0,) * 6, 1), True)
        self.assertEqual(done(FULL, (0,) * 6, 1), (0, 0, 0, 0, 0, 1))
        self.assertEqual(done(FULL, (0,) * 6, 2), (0,) * 6)

    def test_all_stocks(self):
        for book in right_books():
            for stock in right_stocks(book):
                for m, (_, take, _, _) in enumerate(book[1]):
                    self.assertIs(can_do(book, stock, m), all(have >= units for have, units in zip(stock, take)))


class PlayTests(unittest.TestCase):
    def test_the_empty_run(self):
        for book in right_books():
            for stock in right_stocks(book):
                self.assertEqual(end_of_run(book, stock, ()), stock)
            self.assertEqual(need(book, ()), (0,) * len(book[0]))
            self.assertEqual(change(book, ()), (0,) * len(book[0]))
        self.assertEqual(length(()), 0)
        self.assertEqual(need(BARE, ()), (0,))

    def test_runs_move_by_move(self):
        ends = 0
        for book, stock, run in small_plays(21, 600):
            moves = moves_of(run)
            stocks = played(book, stock, moves)
            self.assertEqual(length(run), len(moves))
            if len(stocks) <= len(moves):
                self.assertIsNone(end_of_run(book, stock, run))
            else:
                ends += 1
                self.assertEqual(end_of_run(book, stock, run), stocks[-1])
        self.assertTrue(100 < ends < 500, ends)

    def test_an_example(self):
        run = read_run(SHOP, "1000000 x (saw); 3 x (sell)")
        self.assertEqual(need(SHOP, run), (2, 0))
        self.assertEqual(change(SHOP, run), (999985, 6))
        self.assertEqual(length(run), 1000003)
        self.assertEqual(end_of_run(SHOP, (2, 1), run), (999987, 7))
        self.assertIsNone(end_of_run(SHOP, (1, 1), run))


class NeedTests(unittest.TestCase):
    def test_the_need_is_the_least_stock(self):
        for book, _, run in small_plays(22, 400):
            moves = moves_of(run)
            least = need(book, run)
            self.assertEqual(len(played(book, least, moves)), len(moves) + 1)
            for at in range(len(least)):
                if least[at] > 0:
                    self.assertLessEqual(len(played(book, one_less(least, at), moves)), len(moves))

    def test_just_the_need_and_one_unit_less(self):
        for book, stock, run in small_plays(23, 200) + great_plays(24, 400):
            least = need(book, run)
            self.assertTrue(all(entry >= 0 for entry in least))
            end = tuple(entry + more for entry, more in zip(least, change(book, run)))
            self.assertEqual(end_of_run(book, least, run), end)
            for at in range(len(least)):
                if least[at] > 0:
                    self.assertIsNone(end_of_run(book, one_less(least, at), run))
            enough = all(have >= low for have, low in zip(stock, least))
            self.assertIs(end_of_run(book, stock, run) is not None, enough)

    def test_the_change_is_the_same_from_each_stock(self):
        for book, stock, run in great_plays(25, 200):
            least = need(book, run)
            for more in ((0,) * len(least), stock):
                start = tuple(entry + other for entry, other in zip(least, more))
                end = end_of_run(book, start, run)
                self.assertEqual(tuple(entry - other for entry, other in zip(end, start)), change(book, run))

    def test_two_runs_one_behind_the_other(self):
        for book, _, run in great_plays(26, 200):
            other = some_run(Random(length(run)), len(book[1]), 3)
            rows = zip(need(book, run), need(book, other), change(book, run))
            self.assertEqual(need(book, run + other), tuple(max(low, then - more) for low, then, more in rows))
            rows = zip(change(book, run), change(book, other))
            self.assertEqual(change(book, run + other), tuple(more + then for more, then in rows))
            self.assertEqual(length(run + other), length(run) + length(other))

    def test_the_same_moves_written_otherwise(self):
        for book, _, run in small_plays(27, 100) + great_plays(28, 100):
            forms = [(("rep", 12, run),), (("rep", 1, (("rep", 12, run),)),), (("rep", 3, (("rep", 4, run),)),),
                     run * 12, (("rep", 5, run), ("rep", 7, run)), (*run, ("rep", 10, run), *run),
                     (("rep", 6, run + run),)]
            for form in forms[1:]:
                self.assertEqual(need(book, form), need(book, forms[0]))
                self.assertEqual(change(book, form), change(book, forms[0]))
                self.assertEqual(length(form), length(forms[0]))

    def test_nested_repetitions_with_great_counts(self):
        many = 10 ** 9
        run = (("rep", many, (("rep", many, (("do", 0),)), ("do", 1))),)
        self.assertEqual(need(SHOP, run), (2, 0))
        self.assertEqual(change(SHOP, run), (many * (many - 5), 2 * many))
        self.assertEqual(length(run), many * (many + 1))
        run = (("rep", many, (("rep", many, (("do", 1),)), ("do", 0))),)
        # Each of the many plays uses up 5 * many - 1 wood, and the last saw leaves 3 wood.
        self.assertEqual(need(SHOP, run), (many * (5 * many - 1) + 3, 0))
        self.assertEqual(change(SHOP, run), (many * (1 - 5 * many), 2 * many * many))

    def test_what_is_used_up_in_the_middle(self):
        book = read_book("kinds a b\nturn: 1 a -> 1 b\nback: 1 b -> 1 a\nburn: 1 a -> nothing")
        run = read_run(book, "1000000000 x (7 x (turn); 6 x (back)); 5 x (burn)")
        self.assertEqual(need(book, run), (10 ** 9 + 6, 0))
        self.assertEqual(change(book, run), (-(10 ** 9) - 5, 10 ** 9))
        self.assertEqual(need(book, read_run(book, "1000000000 x (7 x (turn); 7 x (back)); 5 x (burn)")), (7, 0))
        self.assertEqual(need(book, read_run(book, "1000000000 x (6 x (back); 7 x (turn))")), (10 ** 9, 6))

    def test_the_deepest_runs(self):
        run = nested_run(30)
        self.assertEqual(change(SHOP, run), (length(run), 0))
        factorial = 1
        for times in range(1, 30):
            factorial *= times
        self.assertEqual(length(run), factorial)
        run = (("do", 1),)
        for _ in range(29):
            run = (("rep", 10 ** 9, run), ("do", 1))
        self.assertEqual(length(run), sum(10 ** (9 * power) for power in range(30)))
        self.assertEqual(need(SHOP, run), (5 * length(run), 0))

    def test_all_right_runs(self):
        for book in right_books():
            for run in right_runs(book):
                self.assertEqual(end_of_run(book, need(book, run), run) is None, False)

    def test_kinds_that_are_not_touched(self):
        dice = Random(29)
        for _ in range(50):
            names, moves = some_book(dice, 3, 4)
            wider = [(name, (0, *take), (0, *least), (0, *most)) for name, take, least, most in moves]
            book = (("zz", *names), tuple(wider))
            run = some_run(dice, 4, 4)
            self.assertEqual(need(book, run)[0], 0)
            self.assertEqual(change(book, run), (0, *change((names, moves), run)))


if __name__ == "__main__":
    unittest.main()
