"""Tests of the greatest extended stocks: 5.8 to 5.11."""

import unittest
from random import Random

from mintlaw.books import is_run
from mintlaw.covering import greatest, is_closed, is_report, most_of, report, run_to_most
from mintlaw.extended import in_order
from mintlaw.plans import end_of, run_for
from mintlaw.runs import change, covers, end_of_run
from mintlaw.texts import read_book, read_run
from tests.by_hand import (
    few_worlds, greatest_of, is_chosen_by_hand, is_closed_by_hand, is_report_by_hand, losing_book,
    reached, small_worlds, with_gain,
)
from tests.samples import BARE, MINT, NO_INTEGERS, SHOP, odd_values, some_book, some_entries, spoilt

SALE = read_book("kinds wood gold\nsell: 2 wood -> 1 gold")
SALE_ROWS = ((5, 0), (3, 1), (1, 2))
SALE_REPORT = (
    ((5, 0), ()),
    ((3, 1), (("run", (("do", 0),)),)),
    ((1, 2), (("run", (("do", 0),)), ("run", (("do", 0),)))),
)
# From one token each kind is without end, but each of them is made out of the one before it.
CHAIN = read_book(
    "kinds token a b c d e\nmint: 1 token -> 1 token + 1 a\nm1: 3 a -> 1 b\nm2: 5 b + 1 a -> 1 c\nm3: 7 c -> 1 d\n"
    "m4: 2 d + 9 b -> 1 e"
)
# A token that is turned to another one makes what the first one has made to something else.
KEYS = read_book(
    "kinds key lock a b c\nmake: 1 key -> 1 key + 1 a\nturn: 1 key -> 1 lock\nuse: 1 lock + 1 a -> 1 lock + 1 b\n"
    "last: 1 lock + 1000 b -> 1 c"
)


class GreatestTests(unittest.TestCase):
    def test_examples(self):
        self.assertEqual(greatest(SALE, (5, 0)), list(SALE_ROWS))
        self.assertEqual(greatest(SALE, (0, 0)), [(0, 0)])
        self.assertEqual(greatest(SHOP, (2, 0)), [(-1, -1)])
        self.assertEqual(greatest(SHOP, (1, 7)), [(1, 7)])
        self.assertEqual(greatest(MINT, (0, 1, 1)), [(2, 0, -1), (0, 1, -1)])
        self.assertEqual(greatest(MINT, (2, 0, 0)), [(2, 0, 0), (0, 1, 0)])

    def test_a_book_without_moves(self):
        for units in (0, 1, 10 ** 30):
            self.assertEqual(greatest(BARE, (units,)), [(units,)])
            self.assertEqual(report(BARE, (units,)), (((units,), ()),))

    def test_moves_that_need_nothing(self):
        book = read_book("kinds a b\nm: nothing -> 1 a\nn: nothing -> nothing\no: 1000 a -> 1 b")
        self.assertEqual(greatest(book, (0, 0)), [(-1, -1)])
        book = read_book("kinds a b\nn: nothing -> nothing\no: 1 a -> nothing")
        self.assertEqual(greatest(book, (3, 4)), [(3, 4)])

    def test_all_stocks_that_can_be_had(self):
        sizes = []
        for book, stock, rows in few_worlds(201, 150):
            found = greatest(book, stock)
            self.assertEqual(found, greatest_of(rows), (book, stock))
            sizes.append(len(found))
        self.assertGreater(max(sizes), 10)

    def test_what_is_closed_and_reached_is_the_greatest(self):
        endless = 0
        for book, stock in small_worlds(202, 250):
            found = greatest(book, stock)
            self.assertTrue(is_closed_by_hand(book, stock, found), (book, stock))
            self.assertTrue(is_chosen_by_hand(found), (book, stock))
            endless += any(-1 in row for row in found)
        self.assertTrue(50 < endless < 220, endless)

    def test_stocks_that_can_be_had_are_covered(self):
        dice = Random(203)
        for book, stock in small_worlds(204, 100):
            rows = greatest(book, stock)
            for _ in range(60):
                choices = [m for m in range(len(book[1])) if covers(stock, book[1][m][1])]
                if choices:
                    stock = end_of_run(book, stock, (("do", dice.choice(choices)),))
                self.assertTrue(any(covers(row, stock) for row in rows))

    def test_a_chain_of_kinds(self):
        self.assertEqual(greatest(CHAIN, (1, 0, 0, 0, 0, 0)), [(1, -1, -1, -1, -1, -1)])
        self.assertEqual(greatest(CHAIN, (0, 3, 0, 0, 0, 0)), [(0, 3, 0, 0, 0, 0), (0, 0, 1, 0, 0, 0)])

    def test_a_move_that_is_made_once(self):
        end = [(1, 0, -1, 0, 0), (0, 1, -1, -1, 0), (0, 0, -1, -1, 1)]
        self.assertEqual(greatest(KEYS, (1, 0, 0, 0, 0)), end)
        found = report(KEYS, (1, 0, 0, 0, 0))
        self.assertEqual([row for row, _ in found], end)
        self.assertTrue(is_report(KEYS, (1, 0, 0, 0, 0), found))

    def test_books_that_lose(self):
        dice = Random(205)
        for top in (3, 10, 100, 1000, 1000, 1000):
            for many in (7, 8):
                book = losing_book(dice, many, top)
                stock = tuple(dice.randint(0, top) for _ in range(6))
                rows = reached(book, stock, 400)
                if rows is not None:
                    self.assertEqual(greatest(book, stock), greatest_of(rows))
                self.check_report(book, stock)
                self.check_report(with_gain(dice, losing_book(dice, many - 1, top)), stock)

    def check_report(self, book, stock):
        found = report(book, stock)
        rows = [row for row, _ in found]
        self.assertTrue(is_report(book, stock, found), (book, stock))
        self.assertEqual(rows, greatest(book, stock))
        if len(rows) < 200:
            self.assertTrue(is_closed_by_hand(book, stock, rows))
            self.assertTrue(is_chosen_by_hand(rows))

    def test_great_numbers(self):
        units = 10 ** 40
        self.assertEqual(greatest(SHOP, (units, units)), [(-1, -1)])
        book = read_book("kinds a b c\nm: 1000 a -> 1 b\nn: 1000 b + 1 c -> 1 a + 2 c")
        self.assertEqual(greatest(book, (999, 999, units)), [(999, 999, units)])
        self.assertEqual(greatest(book, (999, 1000, units)), [(1000, 0, units + 1), (999, 1000, units), (0, 1, units + 1)])

    def test_what_is_without_end_after_very_many_moves(self):
        # Each turn round the circle gains a little; all of it can be turned at once.
        book = read_book("kinds a b c d\nm: 999 a -> 1000 b\nn: 1000 b -> 998 c\no: 997 c -> 999 a\np: 1 a -> 1 a + 1 d")
        self.assertEqual(greatest(book, (10 ** 30, 0, 0, 0))[0][3], -1)
        self.assertEqual(greatest(book, (2000000, 0, 0, 0)), [(-1, -1, -1, -1)])

    def test_lists_are_new(self):
        found = greatest(SALE, (5, 0))
        found.append(None)
        self.assertEqual(greatest(SALE, (5, 0)), list(SALE_ROWS))


class ClosedTests(unittest.TestCase):
    def test_examples(self):
        self.assertIs(is_closed(SALE, (5, 0), SALE_ROWS), True)
        self.assertIs(is_closed(SALE, (4, 0), SALE_ROWS), True)
        self.assertIs(is_closed(SALE, (6, 0), SALE_ROWS), False)
        self.assertIs(is_closed(SALE, (5, 0), ((-1, -1),)), True)
        self.assertIs(is_closed(SALE, (5, 0), ((5, 3),)), False)
        self.assertIs(is_closed(SALE, (5, 0), ((5, -1),)), True)
        self.assertIs(is_closed(SALE, (5, 0), ((-1, 3),)), False)
        self.assertIs(is_closed(SALE, (0, 0), ()), False)

    def test_in_any_order_and_more_than_once(self):
        self.assertIs(is_closed(SALE, (5, 0), ((1, 2), (5, 0), (3, 1), (5, 0))), True)
        self.assertIs(is_closed(SALE, (5, 0), (*SALE_ROWS, (4, 0))), True)
        self.assertIs(is_closed(SALE, (5, 0), (*SALE_ROWS, (6, 0))), False)

    def test_no_tuples_of_extended_stocks(self):
        for value in (list(SALE_ROWS), [], None, True, "", 5, (5, 0), ((5, 0), [3, 1], (1, 2)), ((5, -2), (-1, -1)),
                      ((-1, -1), None), ((-1, -1), (-1,)), ((-1, -1), (-1, -1, -1)), ((-1, True),)):
            self.assertIs(is_closed(SALE, (5, 0), value), False)
        for value in odd_values():
            self.assertIs(is_closed(SALE, (5, 0), value), False)
            self.assertIs(is_closed(SALE, (5, 0), ((-1, -1), value)), False)
        for entry in NO_INTEGERS:
            self.assertIs(is_closed(SALE, (0, 0), ((-1, entry),)), False)

    def test_rows_by_hand(self):
        dice = Random(206)
        answers = []
        for book, stock, _ in few_worlds(207, 120):
            rows = greatest(book, stock)
            tries = [rows, rows[1:], rows[:-1]]
            for _ in range(6):
                at, kind = dice.randrange(len(rows)), dice.randrange(len(stock))
                row = list(rows[at])
                row[kind] = max(-1, row[kind] + dice.choice((-1, 1, -2)))
                tries.append([*rows[:at], tuple(row), *rows[at + 1:]])
                tries.append([tuple(dice.choice((-1, 0, 1, 2)) for _ in stock) for _ in range(dice.randint(0, 3))])
            for value in tries:
                self.assertIs(is_closed(book, stock, tuple(value)), is_closed_by_hand(book, stock, value))
                answers.append(is_closed_by_hand(book, stock, value))
        self.assertTrue(200 < sum(answers) < len(answers) - 200)

    def test_each_stock_that_can_be_had_is_covered(self):
        for book, stock, reached_rows in few_worlds(208, 60):
            rows = tuple(greatest_of(reached_rows))
            self.assertIs(is_closed(book, stock, rows), True)
            for at in range(len(rows)):
                self.assertIs(is_closed(book, stock, rows[:at] + rows[at + 1:]), False)


class ReportTests(unittest.TestCase):
    def test_example(self):
        self.assertIs(is_report(SALE, (5, 0), SALE_REPORT), True)
        self.assertEqual(is_report_by_hand(SALE, (5, 0), SALE_REPORT), True)
        self.assertEqual([row for row, _ in report(SALE, (5, 0))], list(SALE_ROWS))

    def test_reports_of_small_books(self):
        for book, stock in small_worlds(209, 250):
            found = report(book, stock)
            self.assertIs(type(found), tuple)
            self.assertTrue(is_report_by_hand(book, stock, found), (book, stock))
            self.assertIs(is_report(book, stock, found), True)
            self.assertEqual([row for row, _ in found], greatest(book, stock))

    def test_reports_of_great_books(self):
        dice = Random(210)
        for width in range(1, 7):
            for many in range(9):
                book = some_book(dice, width, many)
                stock = some_entries(dice, width, dice.choice((0, 3, 1000)))
                self.assertIs(is_report(book, stock, report(book, stock)), True)

    def test_reports_of_other_stocks(self):
        self.assertIs(is_report(SALE, (4, 0), SALE_REPORT), False)
        self.assertIs(is_report(SALE, (6, 0), SALE_REPORT), False)
        self.assertIs(is_report(SALE, (5, 1), SALE_REPORT), False)
        self.assertIs(is_report(BARE, (5,), SALE_REPORT), False)

    def test_reports_spoilt_in_one_place(self):
        right = 0
        worlds = [(SALE, (5, 0), SALE_REPORT)]
        for book, stock in small_worlds(211, 25, 3):
            worlds.append((book, stock, report(book, stock)))
        for book, stock, found in worlds:
            if len(found) < 12:
                for value in spoilt(found, (True, False, None, "", (), -1, 0, 1, 2, 3)):
                    expected = is_report_by_hand(book, stock, value)
                    self.assertIs(is_report(book, stock, value), expected, (book, stock, value))
                    right += expected
        # Now and then another step of a plan leads to the same end.
        self.assertLess(right, 300)

    def test_rows_left_out_or_twice_or_elsewhere(self):
        for book, stock, _ in few_worlds(212, 60):
            found = report(book, stock)
            for at, (row, plan) in enumerate(found):
                self.is_no_report(book, stock, found[:at] + found[at + 1:])
                self.is_no_report(book, stock, found[:at] + (found[at],) + found[at:])
                self.is_no_report(book, stock, (*found, found[at]))
                if at > 0:
                    self.is_no_report(book, stock, (*found[:at - 1], found[at], found[at - 1], *found[at + 1:]))
                    self.is_no_report(book, stock, (*found[:at - 1], (found[at - 1][0], plan), *found[at:]))
                for kind in range(len(row)):
                    for entry in (row[kind] + 1, row[kind] - 1, -1, True):
                        if repr(entry) != repr(row[kind]):
                            other = row[:kind] + (entry,) + row[kind + 1:]
                            self.is_no_report(book, stock, (*found[:at], (other, plan), *found[at + 1:]))

    def test_rows_that_are_covered(self):
        # What is covered by others is no member, though it is closed and reached.
        more = (*SALE_REPORT[:2], ((3, 0), ()), SALE_REPORT[2])
        self.is_no_report(SALE, (5, 0), more)
        book = read_book("kinds a b\nm: 1 a -> 1 b\nn: 1 a -> nothing")
        plans = ((), (("run", (("do", 0),)),), (("run", (("do", 1),)),))
        rows = ((1, 0), (0, 1), (0, 0))
        self.assertIs(is_report(book, (1, 0), tuple(zip(rows[:2], plans))), True)
        self.is_no_report(book, (1, 0), tuple(zip(rows, plans)))

    def test_what_is_closed_but_not_reached(self):
        self.is_no_report(SALE, (5, 0), (((-1, -1), ()),))
        self.is_no_report(SALE, (5, 0), (((5, 2), ()), ((1, 2), ())))
        self.is_no_report(SALE, (0, 0), ())

    def test_lists_and_other_values(self):
        self.is_no_report(SALE, (5, 0), list(SALE_REPORT))
        for at in range(3):
            pair = SALE_REPORT[at]
            for other in (list(pair), (list(pair[0]), pair[1]), (pair[0], list(pair[1])), (*pair, ()), pair[:1], None):
                self.is_no_report(SALE, (5, 0), (*SALE_REPORT[:at], other, *SALE_REPORT[at + 1:]))
        for value in odd_values():
            self.is_no_report(SALE, (5, 0), value)
            self.is_no_report(SALE, (5, 0), (value, *SALE_REPORT))
            self.is_no_report(SALE, (5, 0), (((5, 0), value), *SALE_REPORT[1:]) if value != () else None)
        self.is_no_report(SALE, (5, 0), (((5, False), ()), *SALE_REPORT[1:]))
        self.is_no_report(SALE, (5, 0), (SALE_REPORT[0], ((3, True), SALE_REPORT[1][1]), SALE_REPORT[2]))

    def is_no_report(self, book, stock, value):
        self.assertIs(is_report(book, stock, value), False, (book, stock, value))

    def test_other_plans_of_the_same_end(self):
        run = read_run(SHOP, "2 x (saw); saw")
        for plan in ((("pump", run), ("pump", (("do", 1),))), (("run", run), ("pump", run), ("pump", (("do", 1),)))):
            self.assertIs(is_report(SHOP, (2, 0), (((-1, -1), plan),)), True)
        self.is_no_report(SHOP, (2, 0), (((-1, -1), (("pump", run),)),))
        self.is_no_report(SHOP, (2, 0), (((-1, -1), (("pump", (("do", 1),)), ("pump", run))),))


class MostTests(unittest.TestCase):
    def test_examples(self):
        self.assertEqual(most_of(SALE, (5, 0), 0), 5)
        self.assertEqual(most_of(SALE, (5, 0), 1), 2)
        self.assertEqual(most_of(SHOP, (2, 0), 1), -1)
        self.assertEqual([most_of(KEYS, (1, 0, 0, 0, 0), k) for k in range(5)], [1, 1, -1, -1, 1])
        self.assertIsNone(run_to_most(SHOP, (2, 0), 0))
        self.assertEqual(run_to_most(BARE, (7,), 0), ())

    def test_all_stocks_that_can_be_had(self):
        for book, stock, rows in few_worlds(213, 120):
            for k in range(len(stock)):
                most = max(row[k] for row in rows)
                self.assertEqual(most_of(book, stock, k), most)
                run = run_to_most(book, stock, k)
                self.assertTrue(is_run(book, run))
                self.assertEqual(end_of_run(book, stock, run)[k], most)

    def test_runs_to_just_the_greatest_number(self):
        bound, endless = 0, 0
        worlds = [*small_worlds(214, 150), (KEYS, (2, 0, 0, 0, 0)), (CHAIN, (0, 31, 0, 0, 0, 0))]
        for book, stock in worlds:
            rows = greatest(book, stock)
            for k in range(len(stock)):
                most, run = most_of(book, stock, k), run_to_most(book, stock, k)
                if any(row[k] == -1 for row in rows):
                    self.assertEqual((most, run), (-1, None))
                    endless += 1
                else:
                    self.assertEqual(most, max(row[k] for row in rows))
                    self.assertTrue(is_run(book, run))
                    self.assertEqual(end_of_run(book, stock, run)[k], most)
                    bound += 1
        self.assertTrue(min(bound, endless) > 50)

    def test_the_most_by_way_of_what_is_without_end(self):
        # The last kind is made out of what is without end, but only once for each key.
        run = run_to_most(KEYS, (3, 0, 0, 0, 0), 4)
        self.assertEqual(end_of_run(KEYS, (3, 0, 0, 0, 0), run)[4], 3)

    def test_plans_lead_to_more_than_any_number(self):
        worlds = [*small_worlds(215, 100), (CHAIN, (1, 0, 0, 0, 0, 0)), (KEYS, (1, 0, 0, 0, 0))]
        for book, stock in worlds:
            for row, plan in report(book, stock):
                self.assertEqual(end_of(book, stock, plan), row)
                for number in (0, 7, 10 ** 20):
                    end = end_of_run(book, stock, run_for(book, stock, plan, number))
                    self.assertTrue(all(entry >= (number if low == -1 else low) for entry, low in zip(end, row)))

    def test_no_run_makes_a_later_kind_again_and_again(self):
        # Each move that makes a kind of the chain loses another one; still all are without end together.
        for m in range(1, 5):
            self.assertLess(min(change(CHAIN, (("do", m),))), 0)
        self.assertEqual(in_order(greatest(CHAIN, (1, 0, 0, 0, 0, 0))), [(1, -1, -1, -1, -1, -1)])


if __name__ == "__main__":
    unittest.main()
