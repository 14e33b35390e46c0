"""Tests of names, books, stocks, extended stocks and runs (1.1 to 1.4)."""

import unittest

from mintlaw.books import is_book, is_extended, is_name, is_run, is_stock, move_index
from tests.samples import (
    BAD_NAMES, BARE, FULL, GOOD_NAMES, NO_INTEGERS, SHOP, nested_run, odd_values, right_books, right_extended,
    right_runs, right_stocks,
)


def put(values, at, value):
    """Return the tuple with another value at an index."""
    return values[:at] + (value,) + values[at + 1:]


def move_of(name="saw", take=(2, 0), least=(3, 0), most=(3, 0)):
    """Return a move for two kinds."""
    return (name, take, least, most)


class Checks(unittest.TestCase):
    def holds(self, answer, *words):
        self.assertIs(answer, True, words)

    def fails(self, answer, *words):
        self.assertIs(answer, False, words)


class NameTests(Checks):
    def test_names(self):
        for name in GOOD_NAMES:
            self.holds(is_name(name), name)

    def test_no_names(self):
        for name in BAD_NAMES:
            self.fails(is_name(name), name)

    def test_other_values(self):
        for value in (*odd_values(), ("wood",), ("w", "o")):
            if value not in ("do", "rep"):
                self.fails(is_name(value))

    def test_words_of_runs_are_names(self):
        self.holds(is_name("do"))
        self.holds(is_name("rep"))


class BookTests(Checks):
    def test_books(self):
        for book in right_books():
            self.holds(is_book(book), book)

    def test_number_of_kinds(self):
        names = ("a", "b", "c", "d", "e", "f", "g")
        for many in range(8):
            self.assertIs(is_book((names[:many], ())), 1 <= many <= 6)

    def test_number_of_moves(self):
        for many in range(11):
            moves = tuple(move_of(name=f"m{k}") for k in range(many))
            self.assertIs(is_book((("wood", "gold"), moves)), many <= 8)

    def test_names_that_are_none(self):
        for name in (*BAD_NAMES, None, 1, True, (), ("a",)):
            self.fails(is_book(((name,), ())), name)
            self.fails(is_book((("wood", name), ())), name)
            self.fails(is_book((("wood", "gold"), (move_of(name=name),))), name)

    def test_names_that_occur_twice(self):
        self.fails(is_book((("wood", "wood"), ())))
        self.fails(is_book((("a", "b", "c", "d", "e", "a"), ())))
        self.fails(is_book((("wood", "gold"), (move_of(name="gold"),))))
        self.fails(is_book((("wood", "gold"), (move_of(), move_of(take=(1, 1))))))
        self.holds(is_book((("wood", "gold"), (move_of(), move_of(name="saw2")))))

    def test_entries_up_to_1000(self):
        for entry in (0, 1, 999, 1000):
            self.holds(is_book((("a",), (("m", (entry,), (0,), (entry,)),))))
            self.holds(is_book((("a",), (("m", (0,), (entry,), (1000,)),))))
        for entry in (-1, 1001, 10 ** 30, *NO_INTEGERS):
            for place in (1, 2, 3):
                move = put(("m", (0,), (0,), (1000,)), place, (entry,))
                self.fails(is_book((("a",), (move,))), move)

    def test_each_entry_is_looked_at(self):
        for at in range(8):
            for place in (1, 2, 3):
                for entry in (-1, 1001, True, "0"):
                    move = FULL[1][at]
                    for column in range(6):
                        spoilt = put(move, place, put(move[place], column, entry))
                        self.fails(is_book((FULL[0], put(FULL[1], at, spoilt))))

    def test_least_above_most(self):
        self.fails(is_book((("wood", "gold"), (move_of(least=(4, 0)),))))
        self.fails(is_book((("wood", "gold"), (move_of(least=(0, 1)),))))
        self.fails(is_book((("wood", "gold"), (move_of(least=(0, 5), most=(1000, 4)),))))
        self.holds(is_book((("wood", "gold"), (move_of(least=(0, 4), most=(1000, 4)),))))

    def test_wrong_lengths(self):
        for stock in ((), (0,), (0, 0, 0)):
            for place in (1, 2, 3):
                self.fails(is_book((("wood", "gold"), (put(move_of(), place, stock),))))
        self.fails(is_book((("wood", "gold"), (move_of()[:3],))))
        self.fails(is_book((("wood", "gold"), ((*move_of(), (0, 0)),))))
        self.fails(is_book((("wood", "gold"), move_of())))
        self.fails(is_book((("wood", "gold"), ((),))))
        self.fails(is_book(SHOP[:1]))
        self.fails(is_book((*SHOP, ())))

    def test_parts_that_are_no_tuples(self):
        self.fails(is_book(("ab", ())))
        self.fails(is_book((("wood", "gold"), "")))
        self.fails(is_book((("wood", "gold"), None)))
        self.fails(is_book((("wood", "gold"), ("saw",))))
        self.fails(is_book((("wood", "gold"), ("abcd",))))
        self.fails(is_book((("wood", "gold"), (put(move_of(), 1, "00"),))))

    def test_other_values(self):
        for value in odd_values():
            self.fails(is_book(value))
            self.fails(is_book((("wood",), value)))
            self.fails(is_book((("wood",), (value,))))
            self.fails(is_book((("wood", "gold"), (put(move_of(), 1, value),))))
            if value != ("wood", "gold"):
                self.fails(is_book((value, ())))


class StockTests(Checks):
    def test_stocks(self):
        for book in right_books():
            for stock in right_stocks(book):
                self.holds(is_stock(book, stock), stock)
                self.holds(is_extended(book, stock), stock)

    def test_extended_stocks(self):
        for book in right_books():
            for row in right_extended(book):
                self.holds(is_extended(book, row), row)
                self.assertIs(is_stock(book, row), -1 not in row)

    def test_entries_out_of_range(self):
        for book in right_books():
            for row in right_stocks(book):
                for at in range(len(row)):
                    self.fails(is_stock(book, put(row, at, -1)))
                    self.holds(is_extended(book, put(row, at, -1)))
                    for entry in (-2, -(10 ** 30), *NO_INTEGERS):
                        self.fails(is_stock(book, put(row, at, entry)))
                        self.fails(is_extended(book, put(row, at, entry)))

    def test_entries_of_any_size(self):
        self.holds(is_stock(SHOP, (10 ** 5000, 0)))
        self.holds(is_extended(SHOP, (-1, 10 ** 5000)))

    def test_wrong_lengths(self):
        for book in right_books():
            for row in right_stocks(book):
                for wrong in ((), row[1:], (*row, 0), (*row, *row)):
                    self.fails(is_stock(book, wrong))
                    self.fails(is_extended(book, wrong))

    def test_other_values(self):
        for value in odd_values():
            for book in (SHOP, FULL):
                self.fails(is_stock(book, value))
                self.fails(is_extended(book, value))

    def test_other_values_as_entries(self):
        for value in odd_values():
            if not isinstance(value, int) or isinstance(value, bool):
                self.fails(is_stock(BARE, (value,)))
                self.fails(is_extended(BARE, (value,)))
                self.fails(is_stock(SHOP, (0, value)))
                self.fails(is_extended(SHOP, (-1, value)))


class RunTests(Checks):
    def test_runs(self):
        for book in right_books():
            for run in right_runs(book):
                self.holds(is_run(book, run), run)

    def test_depths(self):
        for depth in range(1, 41):
            self.assertIs(is_run(SHOP, nested_run(depth)), depth <= 30)
            self.assertIs(is_run(SHOP, (("do", 1), *nested_run(depth), ("do", 0))), depth <= 30)

    def test_the_deepest_part_counts(self):
        for shallow in (1, 15, 30):
            both = (("rep", 2, nested_run(29)), ("rep", 2, nested_run(shallow)))
            self.assertIs(is_run(SHOP, both), shallow <= 29)

    def test_indexes(self):
        for book in right_books():
            many = len(book[1])
            for index in range(-2, 10):
                self.assertIs(is_run(book, (("do", index),)), 0 <= index < many)
                self.assertIs(is_run(book, (("rep", 3, (("do", index),)),)), 0 <= index < many)
        for index in NO_INTEGERS:
            self.fails(is_run(SHOP, (("do", index),)), index)

    def test_times(self):
        for times in (1, 2, 10 ** 30, 10 ** 5000):
            self.holds(is_run(SHOP, (("rep", times, (("do", 0),)),)))
        for times in (0, -1, -(10 ** 30), *NO_INTEGERS):
            self.fails(is_run(SHOP, (("rep", times, (("do", 0),)),)), times)

    def test_empty_runs(self):
        self.holds(is_run(SHOP, ()))
        self.holds(is_run(BARE, ()))
        self.fails(is_run(SHOP, (("rep", 1, ()),)))
        self.fails(is_run(SHOP, (("do", 0), ("rep", 1, (("do", 1), ("rep", 2, ()))))))
        for depth in range(2, 31):
            self.fails(is_run(SHOP, nested_run(depth, ())))

    def test_spoilt_steps(self):
        for step in ((), ("do",), ("do", 0, 0), ("rep", 2), ("rep", 2, (("do", 0),), 0), ("rep", (("do", 0),), 2),
                     ("Do", 0), ("rep", 0), ("do", 2, (("do", 0),)), (0, 0), (None, 0), ("", 0), "do", "rep", 0, None,
                     ("rep", 2, ("do", 0)), ("rep", 2, "do"), ("rep", 2, None), (("do", 0),), ("saw",), "saw",
                     (("do",), 0), ("rep", 2, 0), ("rep", 2, True)):
            self.fails(is_run(SHOP, (step,)), step)
            self.fails(is_run(SHOP, (("do", 0), step)), step)
            self.fails(is_run(SHOP, (("rep", 2, (("do", 0), step)),)), step)

    def test_other_values(self):
        for value in odd_values():
            self.fails(is_run(SHOP, value))
            self.fails(is_run(SHOP, (("rep", 2, value),)))
            if value not in (("do", 0), ("rep", 2, (("do", 0),))):
                self.fails(is_run(SHOP, (("do", 0), value)))


class MoveIndexTests(unittest.TestCase):
    def test_each_move(self):
        for book in right_books():
            for index, move in enumerate(book[1]):
                self.assertEqual(move_index(book, move[0]), index)

    def test_other_names(self):
        for book in right_books():
            for name in (*book[0], *BAD_NAMES, "saw1", "Saw", "sa"):
                self.assertIsNone(move_index(book, name))
        self.assertIsNone(move_index(FULL, "m8"))


if __name__ == "__main__":
    unittest.main()
