"""Tests of edits and least cures: 10.4 and 10.5."""

import unittest
from itertools import combinations
from random import Random

from mintlaw.boxes import without_end
from mintlaw.cures import is_cure, least_cure, without
from mintlaw.prices import are_prices, free_kinds, gain, is_loop
from mintlaw.texts import read_book
from tests.samples import BARE, CLOSED, FULL, MINT, NO_INTEGERS, SHOP, odd_values, right_books, some_book, spoilt

# Two ways to more of a: by growing it, and round about by b; the second one needs both of its moves.
WAYS = read_book("kinds a b\ngrow: 1 a -> 2 a\nturn: 1 a -> 1 b\nback: 1 b -> 2 a\nlose: 1 b -> nothing")


def books():
    """Return books of up to four kinds and six moves."""
    dice = Random(411)
    found = [SHOP, MINT, CLOSED, BARE, WAYS]
    for _ in range(60):
        found.append(some_book(dice, dice.randint(1, 4), dice.randint(1, 6), dice.choice((1, 2, 3))))
    return found


def tuples_of(many):
    """Return all ascending tuples of indexes of so many moves, those with fewer ones first."""
    return [indexes for size in range(many + 1) for indexes in combinations(range(many), size)]


def is_cure_by_hand(book, k, value):
    """Tell whether a value is a cure with its paper; prices and loops are looked at by what is tested elsewhere."""
    if type(value) is not tuple or len(value) != 2 or type(value[1]) is not tuple or len(value[1]) != 2:
        return False
    indexes, (prices, loops) = value
    if type(indexes) is not tuple or not all(type(m) is int for m in indexes):
        return False
    if indexes not in tuples_of(len(book[1])):
        return False
    kept = tuple(move for m, move in enumerate(book[1]) if m not in indexes)
    if not are_prices((book[0], kept), prices) or prices[k] == 0 or type(loops) is not tuple:
        return False
    if not all(is_loop(book, loop) and gain(book, loop)[k] > 0 for loop in loops):
        return False
    for fewer in tuples_of(len(book[1])):
        if len(fewer) < len(indexes) and all(any(loop[m] > 0 for m in fewer) for loop in loops):
            return False
    return True


class EditTests(unittest.TestCase):
    def test_books_without_moves(self):
        for book in right_books():
            many = len(book[1])
            self.assertEqual(without(book, ()), book)
            self.assertEqual(without(book, tuple(range(many))), (book[0], ()))
            for m in range(many):
                self.assertEqual(without(book, (m,)), (book[0], book[1][:m] + book[1][m + 1:]))
        self.assertEqual([move[0] for move in without(FULL, (0, 3, 7))[1]], ["m1", "m2", "m4", "m5", "m6"])

    def test_bound_kinds_stay_bound(self):
        for book in books():
            free = free_kinds(book)
            for m in range(len(book[1])):
                self.assertTrue(all(k in free for k in free_kinds(without(book, (m,)))))

    def test_what_is_without_end_without_a_move_is_so_with_it(self):
        dice = Random(412)
        endless = 0
        for book in books():
            stock = tuple(dice.randint(0, 3) for _ in book[0])
            for m in range(len(book[1])):
                for k in range(len(book[0])):
                    if without_end(without(book, (m,)), stock, k):
                        self.assertIs(without_end(book, stock, k), True)
                        endless += 1
        self.assertGreater(endless, 50)


class LeastCureTests(unittest.TestCase):
    def test_examples(self):
        self.assertEqual(least_cure(SHOP, 0)[0], (0,))
        self.assertEqual(least_cure(SHOP, 1)[0], (0,))
        self.assertEqual(least_cure(WAYS, 0)[0], (0, 1))
        self.assertEqual(least_cure(WAYS, 1)[0], (1,))
        self.assertIsNone(least_cure(CLOSED, 0))
        self.assertIsNone(least_cure(BARE, 0))
        self.assertEqual(least_cure(MINT, 2)[0], (2,))
        self.assertIsNone(least_cure(MINT, 0))

    def test_the_first_one_with_the_fewest_moves(self):
        sizes = []
        for book in books():
            free = free_kinds(book)
            for k in range(len(book[0])):
                found = least_cure(book, k)
                if k not in free:
                    self.assertIsNone(found)
                    continue
                cures = [indexes for indexes in tuples_of(len(book[1])) if k not in free_kinds(without(book, indexes))]
                self.assertEqual(found[0], cures[0])
                self.assertTrue(is_cure_by_hand(book, k, found), (book, k, found))
                self.assertIs(is_cure(book, k, found), True)
                sizes.append(len(found[0]))
        self.assertTrue(max(sizes) > 2 and min(sizes) == 1, sizes)

    def test_great_books(self):
        dice = Random(413)
        for _ in range(12):
            book = some_book(dice, 6, 8, dice.choice((2, 1000)))
            for k in free_kinds(book):
                self.assertIs(is_cure(book, k, least_cure(book, k)), True)

    def test_moves_that_each_gain_alone(self):
        book = read_book("kinds a\n" + "\n".join(f"m{m}: nothing -> {m + 1} a" for m in range(8)))
        found = least_cure(book, 0)
        self.assertEqual(found[0], (0, 1, 2, 3, 4, 5, 6, 7))
        self.assertIs(is_cure(book, 0, found), True)


class CheckTests(unittest.TestCase):
    def test_bound_kinds(self):
        for book, k in ((CLOSED, 0), (CLOSED, 1), (BARE, 0), (MINT, 0)):
            prices = (1,) if book == BARE else (2, 3) if book == CLOSED else (1, 2, 0)
            self.assertIs(is_cure(book, k, ((), (prices, ()))), True)
            self.assertIs(is_cure(book, k, ((), ((0,) * len(book[0]), ()))), False)
        # Moves that need not be left out are too many.
        self.assertIs(is_cure(CLOSED, 0, ((0,), ((2, 3), ()))), False)
        self.assertIs(is_cure(MINT, 0, ((2,), ((1, 2, 1), ((0, 0, 1),)))), False)

    def test_cures_with_the_fewest_moves_are_all_accepted(self):
        # One of the second way's two moves is enough.
        found = least_cure(WAYS, 0)
        self.assertIs(is_cure(WAYS, 0, found), True)
        loops = ((1, 0, 0, 0), (0, 1, 1, 0))
        for indexes, prices in (((0, 1), (1, 2)), ((0, 2), (1, 1)), ((0, 1), (7, 14))):
            self.assertIs(is_cure(WAYS, 0, (indexes, (prices, loops))), True)
            self.assertIs(is_cure(WAYS, 0, (indexes, (prices, loops[::-1]))), True)
            self.assertIs(is_cure(WAYS, 0, (indexes, (prices, (*loops, (3, 2, 1, 1))))), True)
            self.assertIs(is_cure(WAYS, 0, (indexes, (prices, loops[:1]))), False)
            self.assertIs(is_cure(WAYS, 0, (indexes, (prices, loops[1:]))), False)
            self.assertIs(is_cure(WAYS, 0, (indexes, (prices, ()))), False)
        # More than is needed; or too few, whatever the paper says.
        self.assertIs(is_cure(WAYS, 0, ((0, 1, 2), ((1, 1), loops))), False)
        self.assertIs(is_cure(WAYS, 0, ((0,), ((1, 1), loops))), False)
        self.assertIs(is_cure(WAYS, 0, ((1, 0), ((1, 2), loops))), False)

    def test_loops_that_lose_or_do_not_gain_the_kind(self):
        for loop in ((0, 1, 0, 0), (0, 0, 0, 0), (1, 1, 0, 0), (0, 1, 1), (0, 1, 1, 0, 0), (0, True, 1, 0), (0, 1, 1, -1)):
            self.assertIs(is_cure(WAYS, 0, ((0, 1), ((1, 2), ((1, 0, 0, 0), loop)))), False)
        # This one gains b and no a.
        self.assertIs(is_cure(WAYS, 0, ((0, 1), ((1, 2), ((1, 0, 0, 0), (0, 2, 1, 0), (0, 1, 1, 0))))), False)

    def test_prices_of_the_book_without_the_moves(self):
        loops = ((1, 0, 0, 0), (0, 1, 1, 0))
        for prices, right in (((1, 2), True), ((1, 1), False), ((0, 1), False), ((1, 2, 0), False), ((1,), False),
                              ((True, 2), False), ([1, 2], False), (None, False), ((1, -2), False), ((1, 9), True)):
            self.assertIs(is_cure(WAYS, 0, ((0, 1), (prices, loops))), right, prices)

    def test_papers_spoilt_in_one_place(self):
        answers = []
        for book, k in ((WAYS, 0), (SHOP, 1), (WAYS, 1), (MINT, 2)):
            found = least_cure(book, k)
            for value in spoilt(found, (True, False, None, "", (), -1, 0, 1, 2, 3)):
                expected = is_cure_by_hand(book, k, value)
                self.assertIs(is_cure(book, k, value), expected, value)
                answers.append(expected)
        self.assertTrue(0 < sum(answers) < len(answers) // 3, sum(answers))

    def test_any_values(self):
        found = least_cure(WAYS, 0)
        for value in (*odd_values(), list(found), (list(found[0]), found[1]), (found[0], list(found[1])),
                      (found[0], (found[1][0], list(found[1][1])))):
            self.assertIs(is_cure(WAYS, 0, value), False)
            self.assertIs(is_cure(WAYS, 0, (value, found[1])), False)
            self.assertIs(is_cure(WAYS, 0, (found[0], value)), False)
            self.assertIs(is_cure(WAYS, 0, (found[0], (value, found[1][1]))), False)
            self.assertIs(is_cure(WAYS, 0, (found[0], (found[1][0], value))), False)
        for entry in (*NO_INTEGERS, -1, 4, -4):
            self.assertIs(is_cure(WAYS, 0, ((0, entry), found[1])), False)
            self.assertIs(is_cure(WAYS, 0, ((entry, 1), found[1])), False)


if __name__ == "__main__":
    unittest.main()
