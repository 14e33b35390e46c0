"""Tests of where a run stops (2.4)."""

import unittest
from random import Random

from mintlaw.runs import end_of_run, length, need, stops_at
from mintlaw.texts import read_book, read_run
from tests.samples import SHOP, great_plays, moves_of, right_books, right_stocks, small_plays, some_run

BURN = read_book("kinds a b\nburn: 1 a -> nothing\nturn: 2 a -> 3 b\nback: 3 b -> 2 a\nmake: nothing -> 1 a")


def first_moves(run, count):
    """Return a run of the first moves of a run, so many."""
    steps = []
    for step in run:
        if count == 0:
            break
        whole = 1 if step[0] == "do" else step[1] * length(step[2])
        if whole <= count:
            steps.append(step)
            count -= whole
            continue
        times, rest = divmod(count, length(step[2]))
        if times > 0:
            steps.append(("rep", times, step[2]))
        return tuple(steps) + first_moves(step[2], rest)
    return tuple(steps)


def moves_done(book, stock, moves):
    """Return how many moves can be done, one by one."""
    for count, m in enumerate(moves):
        _, take, _, most = book[1][m]
        if any(have < units for have, units in zip(stock, take)):
            return count
        stock = tuple(have - units + more for have, units, more in zip(stock, take, most))
    return None


def shares_of_need(book, run):
    """Return stocks that have a part of what a run needs."""
    return [tuple(entry * part // 8 for entry in need(book, run)) for part in range(1, 8)]


class StopTests(unittest.TestCase):
    def test_an_example(self):
        run = read_run(SHOP, "4 x (sell; saw)")
        for wood, stop in ((0, 0), (4, 0), (5, 1), (6, 1), (7, 2), (11, 4), (15, 6), (18, 7), (19, None), (20, None)):
            self.assertEqual(stops_at(SHOP, (wood, 0), run), stop, wood)

    def test_runs_move_by_move(self):
        stops = []
        for book, stock, run in small_plays(31, 1000):
            for start in (stock, *shares_of_need(book, run)):
                expected = moves_done(book, start, moves_of(run))
                self.assertEqual(stops_at(book, start, run), expected, (book, start, run))
                stops.append(expected)
        self.assertGreater(len([stop for stop in stops if stop is not None and stop > 3]), 200)

    def test_the_same_moves_written_otherwise(self):
        for book, stock, run in small_plays(32, 200):
            stop = stops_at(book, stock, run * 6)
            for form in ((("rep", 6, run),), (("rep", 2, (("rep", 3, run),)),), (*run, ("rep", 4, run), *run)):
                self.assertEqual(stops_at(book, stock, form), stop)

    def test_runs_that_can_be_played(self):
        for book, _, run in great_plays(33, 200):
            self.assertIsNone(stops_at(book, need(book, run), run))
        for book in right_books():
            for stock in right_stocks(book):
                self.assertIsNone(stops_at(book, stock, ()))

    def test_great_runs_stop_just_there(self):
        stops = []
        dice = Random(36)
        long_runs = [some_run(dice, 4, dice.randint(2, 5), 10 ** 15) for _ in range(300)]
        plays = [(BURN, (dice.randint(10 ** 20, 10 ** 30), dice.randint(0, 10 ** 30)), run) for run in long_runs]
        for book, _, run in great_plays(34, 300):
            plays.extend((book, start, run) for start in shares_of_need(book, run))
        for book, stock, run in plays:
            stop = stops_at(book, stock, run)
            if stop is None:
                self.assertIsNotNone(end_of_run(book, stock, run))
                continue
            stops.append(stop)
            self.assertLess(stop, length(run))
            self.assertEqual(length(first_moves(run, stop + 1)), stop + 1)
            self.assertIsNotNone(end_of_run(book, stock, first_moves(run, stop)))
            self.assertIsNone(end_of_run(book, stock, first_moves(run, stop + 1)))
        self.assertGreater(len([stop for stop in stops if stop > 10 ** 20]), 100)

    def test_one_unit_less_than_the_need(self):
        for book, _, run in great_plays(35, 200):
            least = need(book, run)
            for at in range(len(least)):
                if least[at] > 0:
                    stock = least[:at] + (least[at] - 1,) + least[at + 1:]
                    stop = stops_at(book, stock, run)
                    self.assertTrue(0 <= stop < length(run))
                    self.assertIsNone(end_of_run(book, stock, first_moves(run, stop + 1)))

    def test_inside_a_very_great_repetition(self):
        run = read_run(BURN, "1000000000000000000000000000000 x (burn)")
        for many in (0, 1, 10 ** 21 + 7, 10 ** 30 - 1):
            self.assertEqual(stops_at(BURN, (many, 5), run), many)
        self.assertIsNone(stops_at(BURN, (10 ** 30, 0), run))
        run = read_run(BURN, "make; 1000000000000000000000 x (1000000000 x (turn; back); burn; burn)")
        # Each play of the outer repetition makes 2 * 10 ** 9 + 2 moves and uses up two units.
        whole = 2 * 10 ** 9 + 2
        for many in (2, 3, 10 ** 18, 10 ** 20 + 1):
            plays, left = divmod(many + 1, 2)
            self.assertEqual(stops_at(BURN, (many, 0), run), 1 + plays * whole, (plays, left))
        self.assertEqual(stops_at(BURN, (2 * 10 ** 21 - 2, 0), run), 1 + (10 ** 21 - 1) * whole)
        self.assertIsNone(stops_at(BURN, (2 * 10 ** 21 - 1, 0), run))

    def test_between_the_steps_of_a_repetition(self):
        run = read_run(BURN, "1000000000000000000000000 x (turn; back; turn; 5 x (burn); back; 5 x (make))")
        self.assertIsNone(stops_at(BURN, (7, 0), run))
        for wood in range(7):
            self.assertEqual(stops_at(BURN, (wood, 0), run), moves_done(BURN, (wood, 0), moves_of(run[0][2])))
        run = read_run(BURN, "1000000000000000000000000 x (turn; back; turn; 5 x (burn); back; 4 x (make))")
        for wood in (7, 8, 9, 10 ** 20, 10 ** 20 + 3):
            # From 7 on, a play can be done whole; with 6 left it stops behind turn, back, turn and four burns.
            self.assertEqual(stops_at(BURN, (wood, 0), run), 13 * (wood - 6) + 7)

    def test_a_very_deep_run(self):
        run = (("do", 0),)
        for _ in range(29):
            run = (("rep", 10 ** 9, run), ("do", 0))
        for many in (0, 1, 10 ** 9, 10 ** 100 + 3, length(run) - 1):
            self.assertEqual(stops_at(BURN, (many, 0), run), many)
        self.assertIsNone(stops_at(BURN, (length(run), 0), run))


if __name__ == "__main__":
    unittest.main()
