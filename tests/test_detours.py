"""Tests of pumps that are nested too deep to be repeated and have nothing to spare (5.6)."""

import unittest
from random import Random
from unittest import mock

from mintlaw.books import is_run
from mintlaw.detours import parts_for_pump, points_of, runs_around
from mintlaw.nesting import depth_of, joined
from mintlaw.plans import end_of, labels, labels_of_parts, run_for, run_of_parts
from mintlaw.runs import change, end_of_run, length, need
from mintlaw.texts import read_book
from tests.samples import moves_of, nested_run, some_book, some_run

TURNS = "kinds aa bb ww\nc: 1 aa -> 1 bb\np: 1 bb -> 1 aa\n"
NUMBERS = (0, 1, 2, 20, 21, 10 ** 6, 10 ** 80)


def moves(*indexes):
    """Return the run that makes these moves."""
    return tuple(("do", m) for m in indexes)


def turned(count, factor, behind):
    """Return a run 30 deep that makes move 0 a bit more often than move 1 at each level, and something behind it."""
    run = (("rep", count - 1, moves(1)), ("rep", count, moves(0)))
    for _ in range(3, 30):
        count = count * factor
        run = (("rep", count - 1, moves(1)), ("rep", count, run))
    count = count * factor
    return (("rep", count, moves(1)), ("rep", count, run), *behind)


class DeepPumpTests(unittest.TestCase):
    def check(self, book, run, stock=None):
        stock = need(book, run) if stock is None else stock
        plan = (("pump", run),)
        end = end_of(book, stock, plan)
        self.assertTrue(is_run(book, run))
        self.assertEqual(depth_of(run), 30)
        self.assertIn(-1, end)
        for number in NUMBERS:
            found = run_for(book, stock, plan, number)
            self.assertTrue(is_run(book, found))
            for entry, low in zip(end_of_run(book, stock, found), end):
                self.assertGreaterEqual(entry, number if low == -1 else low)
        return end

    def test_a_run_of_the_issue(self):
        # Nothing can be made earlier or later at any level, and the innermost level has a great count.
        book = read_book(TURNS + "w: nothing -> 1 ww")
        count = 10 ** 12
        run = (("rep", count - 1, (("do", 1),)), ("rep", count, (("do", 0),)))
        for _ in range(3, 30):
            count = count * 100
            run = (("rep", count - 1, (("do", 1),)), ("rep", count, run))
        count = count * 100
        run = (("rep", count, (("do", 1),)), ("rep", count, run), ("do", 2))
        self.assertEqual(run, turned(10 ** 12, 100, moves(2)))
        stock = need(book, run)
        plan = (("pump", run),)
        last = (0, 101010101010101010101010101010101010101010101010101010100999999999972, -1)
        self.assertEqual(labels(book, stock, plan)[1:], [last])
        found = run_for(book, stock, plan, 10 ** 80)
        self.assertTrue(is_run(book, found))
        end = end_of_run(book, stock, found)
        self.assertGreaterEqual(end[2], 10 ** 80)
        self.assertGreaterEqual(end[1], last[1])
        self.assertEqual(self.check(book, run), last)

    def test_turns_that_gain_something(self):
        for line in ("c: 1 aa -> 1 bb + 1 ww\np: 1 bb -> 1 aa", "c: 1 aa -> 1 bb\np: 1 bb -> 1 aa + 3 ww",
                     "c: 3 aa -> 2 bb + 1 ww\np: 2 bb -> 3 aa"):
            self.check(read_book("kinds aa bb ww\n" + line), turned(10 ** 12, 100, ()))

    def test_a_gain_that_needs_much(self):
        book = read_book(TURNS + "w: 1000 aa + 1000 bb -> 1000 aa + 1000 bb + 1 ww")
        there = ("rep", 10 ** 70, moves(0))
        back = ("rep", 10 ** 70, moves(1))
        self.check(book, (there, *turned(10 ** 12, 100, moves(2)), back))
        book = read_book(TURNS + "w: 1000 bb -> 1000 bb + 1 ww")
        self.check(book, turned(10 ** 12, 100, (("rep", 1000, moves(0)), ("do", 2), ("rep", 1000, moves(1)))))

    def test_a_gain_in_the_midst_of_a_way(self):
        # One of d is made out of 10 ** 9 of a, and all is turned back.
        book = read_book("kinds a b c d w\nab: 1000 a -> 1 b\nbc: 1000 b -> 1 c\ncd: 1000 c -> 1 d\nba: 1 b -> 1000 a\n"
                         "cb: 1 c -> 1000 b\ndc: 1 d -> 1000 c\nww: 1 d -> 1 d + 1 w")
        there = (("rep", 10 ** 6, moves(0)), ("rep", 10 ** 3, moves(1)), ("do", 2))
        back = (("do", 5), ("rep", 10 ** 3, moves(4)), ("rep", 10 ** 6, moves(3)))
        nested = nested_run(29, moves(0, 3))
        deep = (("rep", 2, nested),)
        for run in ((*deep, *there, ("do", 6), *back), (*there, ("do", 6), *back, *deep)):
            self.check(book, run)

    def test_tokens(self):
        # The token must be turned before something else can be done.
        book = read_book("kinds pp qq a b w\nf: 1 pp + 1 a -> 1 pp + 1 b\ng: 1 qq + 1 b -> 1 qq + 1 a + 1 w\n"
                         "pq: 1 pp -> 1 qq\nqp: 1 qq -> 1 pp")
        count = 10 ** 12
        run = (("rep", count, moves(0)), ("do", 2), ("rep", count - 1, moves(1)), ("do", 3))
        for _ in range(3, 30):
            count = count * 100
            run = (("do", 2), ("rep", count - 1, moves(1)), ("do", 3), ("rep", count, run))
        self.check(book, (("do", 2), ("rep", count * 100, moves(1)), ("do", 3), ("rep", count * 100, run)))

    def test_several_kinds_at_once(self):
        book = read_book("kinds aa bb ww vv\nc: 1 aa -> 1 bb + 1 ww\np: 1 bb -> 1 aa\nv: 5 bb -> 5 bb + 2 vv")
        run = turned(10 ** 12, 100, (("rep", 5, moves(0)), ("do", 2), ("rep", 5, moves(1))))
        self.assertEqual(self.check(book, run)[2:], (-1, -1))

    def test_before_and_behind_other_parts(self):
        book = read_book(TURNS + "w: 1 ww -> 2 ww\nuse: 3 ww -> nothing")
        run = turned(10 ** 12, 100, moves(2))
        stock = need(book, run)
        plan = (("run", moves(2)), ("pump", run), ("run", moves(3)), ("pump", run), ("run", (("rep", 10 ** 9, moves(3)),)))
        end = end_of(book, stock, plan)
        self.assertEqual(end[2], -1)
        for number in NUMBERS:
            behind = end_of_run(book, stock, run_for(book, stock, plan, number))
            self.assertTrue(behind[2] >= number and behind[:2] == end[:2])


class PartTests(unittest.TestCase):
    def test_parts_lead_as_far_as_the_pump(self):
        dice = Random(431)
        done = 0
        while done < 250:
            book = some_book(dice, dice.randint(1, 5), dice.randint(1, 6), dice.choice((1, 2, 3, 30)))
            run = some_run(dice, len(book[1]), dice.randint(1, 4), dice.choice((4, 100)))
            rows = zip(need(book, run), change(book, run))
            label = tuple(-1 if more < 0 else dice.choice((-1, low, low)) for low, more in rows)
            parts = parts_for_pump(book, label, run)
            self.assertTrue(all(depth_of(inner) <= max(depth_of(run), 2) for _, inner in parts))
            self.assertTrue(all(depth_of(inner) <= 2 for word, inner in parts if word == "pump"))
            for entry, more, end in zip(label, change(book, run), labels_of_parts(book, label, parts)[-1]):
                self.assertTrue(end == -1 or (entry != -1 and more == 0 and end >= entry))
            done += 1

    def test_runs_when_nothing_may_be_repeated(self):
        dice = Random(432)
        done = 0
        with mock.patch("mintlaw.nesting.MANY_STEPS", 0), mock.patch("mintlaw.nesting.FEW_TIMES", 1):
            while done < 250:
                book = some_book(dice, dice.randint(1, 5), dice.randint(1, 6), dice.choice((1, 2, 3)))
                run = some_run(dice, len(book[1]), dice.randint(2, 4), dice.choice((4, 100)))
                rows = zip(need(book, run), change(book, run))
                label = tuple(-1 if more < 0 else low for low, more in rows)
                if depth_of(run) > 1:
                    done += 1
                    self.check_run(book, label, run, dice.choice((5, 10 ** 9)))

    def check_run(self, book, label, run, number):
        parts = (("pump", run),)
        rows = labels_of_parts(book, label, parts)
        wanted = tuple(number if entry == -1 else entry for entry in rows[-1])
        with mock.patch("mintlaw.plans.MOST_DEPTH", depth_of(run)):
            found = run_of_parts(book, rows, parts, wanted)
        self.assertLessEqual(depth_of(found), max(depth_of(run), 2))
        for entry, low, more, least in zip(label, need(book, found), change(book, found), wanted):
            self.assertTrue(entry == -1 or (low <= entry and entry + more >= least))


class PointTests(unittest.TestCase):
    def test_runs_before_and_behind_points(self):
        dice = Random(433)
        for _ in range(150):
            book = some_book(dice, dice.randint(1, 3), dice.randint(1, 4), 3)
            run = some_run(dice, len(book[1]), dice.randint(1, 4), 5)
            label = need(book, run)
            for there, path in points_of(book, label, run, ()):
                before, behind = runs_around(run, path)
                self.assertEqual(moves_of(joined((before, behind))), moves_of(run))
                self.assertEqual(end_of_run(book, label, before), there)
                self.assertLessEqual(max(depth_of(before), depth_of(behind)), depth_of(run))
                self.assertEqual(length(before) + length(behind), length(run))


if __name__ == "__main__":
    unittest.main()
