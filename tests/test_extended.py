"""Tests of extended stocks: their order, and what is behind a run (5.1 to 5.4)."""

import unittest
from itertools import permutations, product
from random import Random

from mintlaw.extended import END, behind, in_order
from mintlaw.runs import change, covers, end_of_run, need
from mintlaw.texts import read_run
from tests.samples import BARE, SHOP, great_plays, right_books, right_extended, right_runs, right_stocks, small_plays


class OrderTests(unittest.TestCase):
    def test_without_end(self):
        self.assertEqual(END, -1)
        self.assertIs(type(END), int)

    def test_examples(self):
        rows = [(-1, -1), (-1, 10 ** 40), (-1, 0), (10 ** 40, -1), (10 ** 40, 0), (10, 5), (9, -1), (9, 9), (1, 0),
                (0, -1), (0, 2), (0, 0)]
        for seed in range(20):
            mixed = list(rows)
            Random(seed).shuffle(mixed)
            self.assertEqual(in_order(mixed), rows)
            self.assertEqual(in_order(tuple(mixed)), rows)

    def test_all_orders(self):
        rows = [(-1, 3, 0), (5, -1, 2), (5, 4, -1), (5, 4, 1)]
        for mixed in permutations(rows):
            self.assertEqual(in_order(mixed), rows)

    def test_all_small_ones(self):
        places = {entry: place for place, entry in enumerate((-1, 2, 1, 0))}
        rows = list(product((0, -1, 2, 1), repeat=3))
        self.assertEqual(in_order(rows), sorted(rows, key=lambda row: [places[entry] for entry in row]))

    def test_none_one_and_equal_ones(self):
        self.assertEqual(in_order([]), [])
        self.assertEqual(in_order(()), [])
        self.assertEqual(in_order([(3, -1)]), [(3, -1)])
        self.assertEqual(in_order([(3,), (-1,), (3,)]), [(-1,), (3,), (3,)])

    def test_what_is_handed_in_stays_as_it_is(self):
        rows = [(0,), (-1,), (5,)]
        self.assertEqual(in_order(rows), [(-1,), (5,), (0,)])
        self.assertEqual(rows, [(0,), (-1,), (5,)])
        found = in_order(rows)
        found.append((7,))
        self.assertEqual(in_order(rows), [(-1,), (5,), (0,)])


class BehindTests(unittest.TestCase):
    def test_examples(self):
        run = read_run(SHOP, "6 x (saw); sell")
        self.assertEqual(behind(SHOP, (2, 0), run), (3, 2))
        self.assertIsNone(behind(SHOP, (1, 0), run))
        self.assertIsNone(behind(SHOP, (1, -1), run))
        self.assertEqual(behind(SHOP, (-1, 0), run), (-1, 2))
        self.assertEqual(behind(SHOP, (2, -1), run), (3, -1))
        self.assertEqual(behind(SHOP, (-1, -1), run), (-1, -1))
        self.assertEqual(behind(SHOP, (-1, 5), read_run(SHOP, "1000000000 x (sell)")), (-1, 5 + 2 * 10 ** 9))
        self.assertEqual(behind(SHOP, (4, -1), (("do", 1),)), None)
        self.assertEqual(behind(SHOP, (5, -1), (("do", 1),)), (0, -1))

    def test_the_empty_run(self):
        for book in right_books():
            for label in right_extended(book):
                self.assertEqual(behind(book, label, ()), label)
        self.assertEqual(behind(BARE, (-1,), ()), (-1,))

    def test_stocks_are_extended_stocks(self):
        for book, stock, run in small_plays(81, 200) + great_plays(82, 200):
            self.assertEqual(behind(book, stock, run), end_of_run(book, stock, run))
        for book in right_books():
            for stock in right_stocks(book):
                for run in right_runs(book):
                    self.assertEqual(behind(book, stock, run), end_of_run(book, stock, run))

    def test_entries_without_end_stay_without_end(self):
        dice = Random(83)
        allowed = 0
        for book, stock, run in small_plays(84, 300) + great_plays(85, 300):
            least = need(book, run)
            for start in (stock, least, tuple(max(entry - 1, 0) for entry in least)):
                label = tuple(dice.choice((-1, entry)) for entry in start)
                enough = all(entry == -1 or entry >= low for entry, low in zip(label, least))
                self.assertIs(covers(label, least), enough)
                rows = zip(label, change(book, run))
                expected = tuple(-1 if entry == -1 else entry + more for entry, more in rows)
                self.assertEqual(behind(book, label, run), expected if enough else None)
                allowed += enough
        self.assertTrue(400 < allowed < 1400, allowed)

    def test_what_covers_more_leads_to_what_covers_more(self):
        for book, _, run in great_plays(86, 100):
            least = need(book, run)
            for at in range(len(least)):
                label = least[:at] + (-1,) + least[at + 1:]
                self.assertTrue(covers(behind(book, label, run), behind(book, least, run)))


class HadTests(unittest.TestCase):
    def test_what_can_be_had(self):
        # 3 wood and 1 gold can be had from 7 wood: some run leads to a stock that covers them.
        end = end_of_run(SHOP, (7, 0), read_run(SHOP, "2 x (saw); sell"))
        self.assertIs(covers(end, (3, 1)), True)
        self.assertIs(covers(end, (5, 1)), False)


if __name__ == "__main__":
    unittest.main()
