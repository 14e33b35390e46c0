"""Tests of verdicts: 10.1 to 10.3."""

import unittest
from random import Random

from mintlaw.bounds import price_bound
from mintlaw.books import is_run
from mintlaw.covering import is_report, most_of, report
from mintlaw.plans import end_of
from mintlaw.prices import free_kinds, is_parting, loop_run, parting
from mintlaw.runs import end_of_run, need
from mintlaw.texts import read_book
from mintlaw.verdicts import is_verdict, verdict
from tests.by_hand import greatest_of, is_report_by_hand, losing_book, reached, small_worlds, with_gain
from tests.samples import BARE, CLOSED, MINT, SHOP, odd_values, spoilt
from tests.test_covering import CHAIN, KEYS, SALE, SALE_REPORT

SELL = (("do", 0),)
SALE_VERDICT = (((1, 2), (0,)), SALE_REPORT, (("most", 5, ()), ("most", 2, (("rep", 2, SELL),))))


def is_answer_by_hand(book, stock, rows, k, value):
    """Tell whether a value is a right answer for a kind; runs and plans are looked at by what is tested elsewhere."""
    if type(value) is not tuple or value[:1] not in (("most",), ("end",)):
        return False
    if value[0] == "end":
        end = end_of(book, stock, value[1]) if len(value) == 2 else None
        return end is not None and end[k] == -1
    if len(value) != 3 or type(value[1]) is not int or any(row[k] == -1 for row in rows):
        return False
    if value[1] != max(row[k] for row in rows) or not is_run(book, value[2]):
        return False
    end = end_of_run(book, stock, value[2])
    return end is not None and end[k] == value[1]


def is_verdict_by_hand(book, stock, value):
    """Tell whether a value is a right verdict whose plans are short."""
    if type(value) is not tuple or len(value) != 3 or not is_parting(book, value[0]):
        return False
    if not is_report_by_hand(book, stock, value[1]) or type(value[2]) is not tuple or len(value[2]) != len(book[0]):
        return False
    rows = [row for row, _ in value[1]]
    return all(is_answer_by_hand(book, stock, rows, k, answer) for k, answer in enumerate(value[2]))


class VerdictTests(unittest.TestCase):
    def test_example(self):
        self.assertIs(is_verdict(SALE, (5, 0), SALE_VERDICT), True)
        found = verdict(SALE, (5, 0))
        self.assertEqual([row for row, _ in found[1]], [(5, 0), (3, 1), (1, 2)])
        self.assertEqual([answer[:2] for answer in found[2]], [("most", 5), ("most", 2)])
        self.assertEqual(verdict(BARE, (7,))[1:], ((((7,), ()),), (("most", 7, ()),)))
        self.assertEqual([answer[0] for answer in verdict(SHOP, (2, 0))[2]], ["end", "end"])
        self.assertEqual([answer[:2] for answer in verdict(SHOP, (1, 9))[2]], [("most", 1), ("most", 9)])

    def test_verdicts_of_small_books(self):
        answers = []
        for book, stock in small_worlds(401, 200):
            found = verdict(book, stock)
            self.assertTrue(is_verdict_by_hand(book, stock, found), (book, stock))
            self.assertIs(is_verdict(book, stock, found), True)
            answers.extend(answer[0] for answer in found[2])
        self.assertTrue(min(answers.count("most"), answers.count("end")) > 50)

    def test_the_numbers_are_those_of_all_stocks_that_can_be_had(self):
        for book, stock in small_worlds(402, 200):
            rows = reached(book, stock, 200)
            if rows is not None:
                found = verdict(book, stock)
                self.assertEqual([row for row, _ in found[1]], greatest_of(rows))
                self.assertEqual([answer[1] for answer in found[2]], [max(column) for column in zip(*rows)])

    def test_books_that_lose(self):
        dice = Random(403)
        for top in (3, 10, 100, 1000, 1000):
            for many in (7, 8):
                book = losing_book(dice, many, top)
                stock = tuple(dice.randint(0, top) for _ in range(6))
                self.check_parts(book, stock)
                self.check_parts(with_gain(dice, losing_book(dice, many - 1, top)), stock)

    def test_what_the_parts_have_to_do_with_each_other(self):
        for book, stock in small_worlds(404, 150):
            self.check_parts(book, stock)

    def check_parts(self, book, stock):
        found = verdict(book, stock)
        self.assertTrue(is_verdict(book, stock, found), (book, stock))
        free = free_kinds(book)
        run = loop_run(book, found[0][1])
        rich = tuple(max(units, low) for units, low in zip(stock, need(book, run)))
        for k, answer in enumerate(found[2]):
            self.assertEqual(most_of(book, stock, k), -1 if answer[0] == "end" else answer[1])
            if k not in free:
                over, under = price_bound(book, stock, k)[0]
                self.assertEqual(answer[0], "most")
                self.assertLessEqual(answer[1], over // under)
            else:
                self.assertTrue(any(row[k] == -1 for row, _ in report(book, rich)))

    def test_chains(self):
        for book, stock in ((CHAIN, (1, 0, 0, 0, 0, 0)), (KEYS, (2, 0, 0, 0, 0)), (MINT, (3, 1, 1)), (CLOSED, (9, 9))):
            self.check_parts(book, stock)
        self.assertEqual([answer[0] for answer in verdict(KEYS, (1, 0, 0, 0, 0))[2]],
                         ["most", "most", "end", "end", "most"])


class CheckTests(unittest.TestCase):
    def is_none(self, value, book=SALE, stock=(5, 0)):
        self.assertIs(is_verdict(book, stock, value), False, value)

    def test_verdicts_spoilt_in_one_place(self):
        worlds = [(SALE, (5, 0), SALE_VERDICT), (SHOP, (2, 0), verdict(SHOP, (2, 0))), (BARE, (3,), verdict(BARE, (3,))),
                  (MINT, (1, 1, 1), verdict(MINT, (1, 1, 1)))]
        for book, stock, found in worlds:
            right = 0
            for value in spoilt(found, (True, False, None, "", (), -1, 0, 1, 2, 3, "end", "most")):
                expected = is_verdict_by_hand(book, stock, value)
                self.assertIs(is_verdict(book, stock, value), expected, value)
                right += expected
            # Other prices, a loop more often made, or a run that is played another time may be right as well.
            self.assertLess(right, 60)

    def test_other_right_verdicts(self):
        parted, found, answers = SALE_VERDICT
        others = [((2, 4), (0,)), ((1, 1), (0,)), ((3, 1), (0,))]
        for other in others:
            self.assertIs(is_verdict(SALE, (5, 0), (other, found, answers)), True)
        for run in ((("do", 0), ("do", 0)), (("rep", 1, SELL), *SELL), (("rep", 2, (("rep", 1, SELL),)),)):
            self.assertIs(is_verdict(SALE, (5, 0), (parted, found, (answers[0], ("most", 2, run)))), True)
            plan = (("run", run),)
            pairs = (*found[:2], ((1, 2), plan))
            self.assertIs(is_verdict(SALE, (5, 0), (parted, pairs, answers)), True)
        plans = ((("pump", (("do", 0),)), ("pump", (("do", 1),))), (("pump", (("do", 0), ("do", 0))), ("pump", (("do", 1),))))
        right = verdict(SHOP, (2, 0))
        for plan in plans:
            for k in range(2):
                changed = (*right[2][:k], ("end", plan), *right[2][k + 1:])
                self.assertIs(is_verdict(SHOP, (2, 0), (*right[:2], changed)), True)
        # A plan for the first kind alone shows nothing of the second one.
        short = ("end", plans[0][:1])
        self.assertIs(is_verdict(SHOP, (2, 0), (*right[:2], (short, right[2][1]))), True)
        self.is_none((*right[:2], (right[2][0], short)), SHOP, (2, 0))

    def test_wrong_partings(self):
        _, found, answers = SALE_VERDICT
        for other in (((1, 3), (0,)), ((1, 0), (0,)), ((0, 1), (0,)), ((1, 2), (1,)), ((1, 2), ()), ((1, 2),), (), None,
                      [(1, 2), (0,)], ((True, 2), (0,)), ((1, 2), (False,)), parting(SHOP)):
            self.is_none((other, found, answers))

    def test_wrong_reports(self):
        parted, found, answers = SALE_VERDICT
        for other in (found[1:], found[:-1], (*found, found[-1]), (found[1], found[0], found[2]), list(found), (),
                      (((-1, -1), ()),), None, ((*found[0], ()), *found[1:])):
            self.is_none((parted, other, answers))

    def test_wrong_answers(self):
        parted, found, (first, second) = SALE_VERDICT
        double = ("rep", 2, SELL)
        for other in (("most", 3, (double,)), ("most", 1, SELL), ("most", 2, SELL), ("most", 2, ()), ("most", 2, [double]),
                      ("most", 2, (double, double)), ("most", 2, (("do", 1), ("do", 1))), ("most", 2, None),
                      ("most", "2", (double,)), ("most", 2), ("most", 2, (double,), ()), ["most", 2, (double,)],
                      ("end", ()), ("end", (("run", SELL),)), ("end", (("pump", SELL),)), ("end",), ("end", None),
                      ("most", -1, ()), ("Most", 2, (double,)), (), None, ("end", (double,)), True,
                      ("most", 2, (("rep", True, SELL), *SELL))):
            self.is_none((parted, found, (first, other)))
        for other in ((first,), (first, second, second), (second, first), [first, second], (), None):
            self.is_none((parted, found, other))

    def test_numbers_that_are_no_integers(self):
        found = verdict(SALE, (1, 1))
        self.assertEqual(found[2], (("most", 1, ()), ("most", 1, ())))
        for k in range(2):
            self.is_none((*found[:2], (*found[2][:k], ("most", True, ()), *found[2][k + 1:])), SALE, (1, 1))

    def test_the_most_of_what_is_without_end(self):
        right = verdict(SHOP, (2, 0))
        for number in (2, 3, -1, 0):
            self.is_none((*right[:2], (("most", number, ()), right[2][1])), SHOP, (2, 0))
        # The greatest entry of the members is meant, though one of them is without end there.
        book = read_book("kinds a b\nm: 1 a -> 1 a + 1 b\nn: 1 a -> 2 b\no: 1 a -> nothing")
        found = verdict(book, (1, 0))
        self.assertEqual([answer[0] for answer in found[2]], ["most", "end"])

    def test_other_stocks_and_values(self):
        for stock in ((4, 0), (6, 0), (5, 1)):
            self.is_none(SALE_VERDICT, SALE, stock)
        self.is_none(list(SALE_VERDICT))
        self.is_none(SALE_VERDICT[:2])
        self.is_none((*SALE_VERDICT, ()))
        for value in odd_values():
            self.is_none(value)
            for at in range(3):
                self.is_none((*SALE_VERDICT[:at], value, *SALE_VERDICT[at + 1:]))
        self.assertTrue(is_report(SALE, (5, 0), SALE_VERDICT[1]))


if __name__ == "__main__":
    unittest.main()
