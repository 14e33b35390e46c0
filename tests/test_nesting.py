"""Tests of playing a run many times without nesting it too deep (the depth in 1.4, for the runs of 5.6)."""

import unittest
from random import Random
from unittest import mock

from mintlaw.books import is_run
from mintlaw.nesting import FEW_TIMES, depth_of, repeated
from mintlaw.runs import change, covers, length, need
from tests.samples import SHOP, nested_run, some_book, some_run


def counts_of(run, many):
    """Return how often each of so many moves is made in a run."""
    counts = [0] * many
    for step in run:
        if step[0] == "do":
            counts[step[1]] += 1
        else:
            counts = [count + step[1] * more for count, more in zip(counts, counts_of(step[2], many))]
    return counts


class DepthTests(unittest.TestCase):
    def test_depths(self):
        self.assertEqual(depth_of(()), 1)
        self.assertEqual(depth_of((("do", 0), ("do", 1))), 1)
        for depth in range(1, 31):
            self.assertEqual(depth_of(nested_run(depth)), depth)
            self.assertEqual(depth_of((("rep", 2, (("do", 0),)), *nested_run(depth), ("do", 0))), max(depth, 2))


class RepeatedTests(unittest.TestCase):
    def check(self, book, label, run, times, deepest):
        found = repeated(book, label, run, times, deepest)
        self.assertLessEqual(depth_of(found), deepest)
        self.assertTrue(is_run(book, found))
        expected = [times * count for count in counts_of(run, len(book[1]))]
        self.assertEqual(counts_of(found, len(book[1])), expected)
        self.assertTrue(covers(label, need(book, found)), (book, label, run, times, deepest))
        self.assertEqual(change(book, found), tuple(times * more for more in change(book, run)))
        return found

    def test_no_times_and_one_time(self):
        run = nested_run(30)
        self.assertEqual(self.check(SHOP, (2, 0), run, 0, 30), ())
        self.assertEqual(self.check(SHOP, (2, 0), run, 1, 30), run)

    def test_runs_that_are_not_too_deep(self):
        for depth in range(1, 30):
            run = (("do", 0), *nested_run(depth))
            self.assertEqual(self.check(SHOP, (2, 0), run, 10 ** 9, 30), (("rep", 10 ** 9, run),))

    def test_repetitions_of_repetitions(self):
        for times in (2, FEW_TIMES + 1, 10 ** 9):
            found = self.check(SHOP, (2, 0), nested_run(30), times, 30)
            self.assertEqual(length(found), times * length(nested_run(30)))

    def test_runs_that_are_as_deep_as_may_be(self):
        dice = Random(101)
        sizes = []
        for _ in range(3000):
            width = dice.randint(1, 4)
            book = some_book(dice, width, dice.randint(1, 3), dice.choice((1, 2)))
            run = some_run(dice, len(book[1]), dice.randint(2, 4), 50)
            times = dice.choice((2, FEW_TIMES, FEW_TIMES + 1, 10 ** 3))
            whole = need(book, (("rep", times, run),))
            label = tuple(dice.choice((-1, entry, entry)) for entry in whole)
            if depth_of(run) > 1:
                sizes.append(len(self.check(book, label, run, times, depth_of(run))))
        self.assertGreater(len(sizes), 1000)

    def test_with_just_what_is_needed(self):
        dice = Random(102)
        with mock.patch("mintlaw.nesting.FEW_TIMES", 2):
            for _ in range(6000):
                book = some_book(dice, dice.randint(1, 4), dice.randint(1, 3), 2)
                run = some_run(dice, len(book[1]), dice.randint(2, 5), 4)
                times = dice.randint(1, 7)
                self.check(book, need(book, (("rep", times, run),)), run, times, depth_of(run))

    def test_very_great_counts_at_each_level(self):
        # What is made at the deepest level is made all at once, before or behind the rest.
        book = (("a", "b"), (("make", (0, 0), (0, 0), (1, 0)), ("turn", (1, 0), (0, 0), (0, 1))))
        make, turn = ("do", 0), ("do", 1)
        for first, last, spare in (((make,), (), 0), ((), (turn,), 1)):
            run = (*first, make, turn, *last)
            for _ in range(29):
                run = (*first, ("rep", 10 ** 9, run), *last)
            label = (need(book, (("rep", 10 ** 9, run),))[0] + spare, 0)
            self.assertLess(len(self.check(book, label, run, 10 ** 9, 30)), 10)

    def test_what_is_written_out_at_the_deepest_level_alone(self):
        # Nothing can be made earlier or later at any level, but the count at the deepest one is small.
        book = (("a", "b", "c"), (("turn", (1, 0, 0), (0, 0, 0), (0, 1, 0)), ("back", (0, 1, 0), (0, 0, 0), (1, 0, 1))))
        run = (("rep", 9, (("do", 1),)), ("rep", 10, (("do", 0),)))
        count = 10
        for _ in range(28):
            count = count * 3
            run = (("rep", count - 1, (("do", 1),)), ("rep", count, run))
        self.assertEqual(depth_of(run), 30)
        found = self.check(book, need(book, (("rep", 10 ** 6, run),)), run, 10 ** 6, 30)
        self.assertLess(len(found), 10)

    def test_what_is_too_much_to_be_written_down(self):
        book = (("a", "b", "c"), (("turn", (1, 0, 0), (0, 0, 0), (0, 1, 0)), ("back", (0, 1, 0), (0, 0, 0), (1, 0, 1))))
        run = (("rep", 10 ** 9, (("do", 0),)), ("rep", 10 ** 9, (("do", 1),)))
        self.assertIsNone(repeated(book, need(book, run), run, 10 ** 9, 2))
        with mock.patch("mintlaw.nesting.MANY_STEPS", 40):
            self.assertEqual(len(self.check(book, (9, 0, 0), (("do", 0), ("do", 1)), 20, 1)), 40)
            self.assertIsNone(repeated(book, (9, 0, 0), (("do", 0), ("do", 1)), 21, 1))

    def test_what_cannot_be_made_earlier_or_later(self):
        book = (("a", "b", "c"), (("turn", (1, 0, 0), (0, 0, 0), (0, 1, 0)), ("back", (0, 1, 0), (0, 0, 0), (1, 0, 1))))
        inner = (("rep", 7, (("do", 0),)), ("do", 0))
        # All of a is turned to b before it is turned back, so the inner run must be made in another way.
        for many in (FEW_TIMES, FEW_TIMES + 1, 1000):
            run = (("rep", many, inner), ("rep", 8 * many, (("do", 1),)))
            found = self.check(book, (8 * many, 0, 0), run, 10 ** 6, 3)
            self.assertEqual(length(found), 16 * many * 10 ** 6)
            self.assertLess(len(found), 20 * FEW_TIMES)


if __name__ == "__main__":
    unittest.main()
