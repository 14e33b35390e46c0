"""Tests of plans: their form, their labels, and the runs that they stand for (5.5 to 5.7)."""

import unittest
from random import Random

from mintlaw.books import is_run
from mintlaw.errors import BadPlan
from mintlaw.plans import end_of, is_plan, labels, run_for
from mintlaw.runs import change, end_of_run, length
from mintlaw.texts import read_book
from tests.samples import (
    BARE, FULL, NO_INTEGERS, SHOP, moves_of, nested_run, odd_values, right_books, right_runs, right_stocks, some_book,
    some_entries, some_run, spoilt,
)

SAW = (("do", 0),)
SELL = (("do", 1),)
# A pump of each move: each one uses up what the ones before it have made.
CHAIN = read_book(
    "kinds wood plank gold gem\nsaw: 1 wood -> 3 wood\ncut: 7 wood -> 1 plank\nsell: 5 plank + 9 wood -> 2 gold\n"
    "swap: 11 gold + 1 plank + 1 wood -> 1 gem"
)
NUMBERS = (0, 1, 2, 17, 10 ** 6)


def part_by_hand(book, label, part):
    """Return the label behind a part, or None; the part's run is right and short."""
    word, run = part
    entries = list(label)
    for m in moves_of(run):
        _, take, _, most = book[1][m]
        for kind, entry in enumerate(entries):
            if entry != -1 and entry < take[kind]:
                return None
            if entry != -1:
                entries[kind] = entry - take[kind] + most[kind]
    if word == "run":
        return tuple(entries)
    if any(entry < before for entry, before in zip(entries, label)):
        return None
    return tuple(-1 if entry > before else before for entry, before in zip(entries, label))


def is_part_by_hand(value):
    """Tell whether a value is a part of a plan for SHOP."""
    if type(value) is not tuple or len(value) != 2 or value[0] not in ("run", "pump"):
        return False
    return value[1] != () and is_run(SHOP, value[1])


def some_plan(dice, book, stock, many):
    """Return a plan with up to so many parts, all of them allowed, and its labels."""
    plan = []
    found = [stock]
    for _ in range(many * 6):
        part = (dice.choice(("run", "pump", "pump")), some_run(dice, len(book[1]), dice.randint(1, 3), 5))
        label = part_by_hand(book, found[-1], part)
        if label is not None and len(plan) < many:
            plan.append(part)
            found.append(label)
    return tuple(plan), found


def deepened(run, times, depth, before, behind):
    """Return a run that repeats a run, and then that, with moves before and behind, until it is nested so deep."""
    for _ in range(depth - 1):
        run = (*before, ("rep", times, run), *behind)
    return run


def many_plans(seed, many):
    """Return so many tuples of a book, a stock, a plan and its labels."""
    dice = Random(seed)
    plans = []
    while len(plans) < many:
        book = some_book(dice, dice.randint(1, 6), dice.randint(1, 8), dice.choice((1, 1, 2, 3, 1000)))
        stock = some_entries(dice, len(book[0]), dice.choice((0, 3, 30, 2000)))
        plan, found = some_plan(dice, book, stock, dice.randint(0, 6))
        if plan != () or dice.random() < 0.1:
            plans.append((book, stock, plan, found))
    return plans


class PlanChecks(unittest.TestCase):
    def is_no_plan_for(self, book, stock, plan):
        with self.assertRaises(BadPlan):
            labels(book, stock, plan)
        with self.assertRaises(BadPlan):
            run_for(book, stock, plan, 3)
        self.assertIsNone(end_of(book, stock, plan))

    def leads_to(self, book, stock, plan, end):
        for number in NUMBERS:
            run = run_for(book, stock, plan, number)
            self.assertTrue(is_run(book, run))
            stock_behind = end_of_run(book, stock, run)
            self.assertIsNotNone(stock_behind, (book, stock, plan, number))
            for entry, low in zip(stock_behind, end):
                self.assertGreaterEqual(entry, number if low == -1 else low, (book, stock, plan, number))


class FormTests(unittest.TestCase):
    def test_plans(self):
        for book in right_books():
            self.assertIs(is_plan(book, ()), True)
            for run in right_runs(book):
                for word in ("run", "pump"):
                    self.assertIs(is_plan(book, ((word, run),)), run != ())
                    self.assertIs(is_plan(book, ((word, run),) * 40), run != ())

    def test_depths(self):
        for depth in range(1, 36):
            for word in ("run", "pump"):
                self.assertIs(is_plan(SHOP, ((word, nested_run(depth)),)), depth <= 30)

    def test_plans_spoilt_in_one_place(self):
        plan = (("run", (("do", 0), ("rep", 2, (("do", 1),)))), ("pump", (("do", 1),)))
        self.assertIs(is_plan(SHOP, plan), True)
        wrong = 0
        for value in spoilt(plan, (*NO_INTEGERS, -1, 2, "do", "run")):
            right = isinstance(value, tuple) and all(is_part_by_hand(part) for part in value)
            self.assertIs(is_plan(SHOP, value), right, value)
            wrong += not right
        self.assertGreater(wrong, 100)

    def test_values_that_are_no_plans(self):
        for value in ((("walk", SAW),), (("Run", SAW),), (("run", ()),), (("pump", ()),), (("run",),),
                      (("run", SAW, SAW),), ("run", SAW), (SAW,), SAW, (("run", ("do", 0)),),
                      (("run", (("do", 2),)),), (("run", (("do", True),)),), (("run", (("rep", True, SAW),)),),
                      (("pump", (("rep", 0, SAW),)),), (("run", SAW), ("pump", ())),
                      [("run", SAW)], (["run", SAW],), (("run", [("do", 0)]),), ("run",), ("pump", "run"), (SAW, "run"),
                      (("run", "do"),), ((True, SAW),), ((0, SAW),), (((), SAW),)):
            self.assertIs(is_plan(SHOP, value), False, value)
        self.assertIs(is_plan(BARE, (("run", SAW),)), False)

    def test_other_values(self):
        for value in odd_values():
            self.assertIs(is_plan(SHOP, value), False, value)
            self.assertIs(is_plan(SHOP, (value,)), False, value)
            self.assertIs(is_plan(SHOP, ((value, SAW),)), False, value)
            if not is_run(SHOP, value):
                self.assertIs(is_plan(SHOP, (("run", SAW), ("pump", value))), False, value)


class LabelTests(PlanChecks):
    def test_plans_without_parts(self):
        for book in right_books():
            for stock in right_stocks(book):
                self.assertEqual(labels(book, stock, ()), [stock])
                self.assertEqual(end_of(book, stock, ()), stock)

    def test_examples(self):
        plan = (("run", SAW), ("pump", SAW), ("pump", SELL), ("run", (("rep", 10 ** 9, SELL),)))
        self.assertEqual(labels(SHOP, (2, 0), plan), [(2, 0), (3, 0), (-1, 0), (-1, -1), (-1, -1)])
        self.assertEqual(end_of(SHOP, (2, 0), plan), (-1, -1))
        self.assertEqual(labels(SHOP, (5, 0), (("run", SELL),)), [(5, 0), (0, 2)])
        self.is_no_plan_for(SHOP, (1, 0), plan)

    def test_runs_and_pumps_by_hand(self):
        endless = 0
        for book, stock, plan, found in many_plans(91, 300):
            self.assertEqual(labels(book, stock, plan), found)
            self.assertEqual(end_of(book, stock, plan), found[-1])
            for at in range(len(plan)):
                self.assertEqual(end_of(book, stock, plan[:at]), found[at])
            endless += -1 in found[-1]
        self.assertGreater(endless, 100)

    def test_pumps_that_lose_something(self):
        # Selling gains gold and loses wood: that is a pump where wood is without end, and nowhere else.
        self.is_no_plan_for(SHOP, (10 ** 30, 0), (("pump", SELL),))
        self.assertEqual(end_of(SHOP, (2, 3), (("pump", SAW), ("pump", SELL))), (-1, -1))
        book = read_book("kinds a b\nturn: 1 a -> 1 b\nback: 1 b -> 1 a\ngrow: 1 b -> 2 b")
        self.is_no_plan_for(book, (5, 0), (("pump", (("do", 0),)),))
        self.assertEqual(labels(book, (5, 0), (("pump", (("do", 0), ("do", 1))),)), [(5, 0), (5, 0)])
        self.assertEqual(end_of(book, (5, 0), (("pump", (("do", 0), ("do", 2), ("do", 1))),)), (5, -1))
        self.assertEqual(end_of(book, (5, 1), (("pump", (("do", 2),)), ("pump", (("do", 1),)))), (-1, -1))

    def test_runs_that_are_not_covered(self):
        self.is_no_plan_for(SHOP, (1, 7), (("run", SAW),))
        self.is_no_plan_for(SHOP, (1, 7), (("pump", SAW),))
        self.is_no_plan_for(SHOP, (5, 0), (("run", SELL), ("run", SELL)))
        self.is_no_plan_for(SHOP, (2, 0), (("pump", SAW), ("run", SELL), ("run", ()), ("run", SELL)))
        self.assertEqual(end_of(SHOP, (2, 0), (("pump", SAW), ("run", SELL), ("run", SELL))), (-1, 4))

    def test_parts_by_hand(self):
        dice = Random(92)
        answers = []
        for book, stock, plan, found in many_plans(93, 300):
            part = (dice.choice(("run", "pump")), some_run(dice, len(book[1]), 2, 4))
            expected = part_by_hand(book, found[-1], part)
            self.assertEqual(end_of(book, stock, (*plan, part)), expected)
            answers.append(expected is None)
            if expected is None:
                self.is_no_plan_for(book, stock, (*plan, part))
        self.assertTrue(30 < sum(answers) < 270, sum(answers))

    def test_values_that_are_no_plans(self):
        for value in (*odd_values(), (("run", ()),), (("pump", SAW), None), (("run", (("do", True),)),), None,
                      (("run", nested_run(31)),)):
            self.is_no_plan_for(SHOP, (2, 0), value)
            self.is_no_plan_for(SHOP, (2, 0), (("run", SAW), value))
        self.is_no_plan_for(SHOP, (2, 0), ("run", SAW))
        self.is_no_plan_for(SHOP, (2, 0), [("run", SAW)])

    def test_returned_lists_are_new(self):
        found = labels(SHOP, (2, 0), (("run", SAW),))
        found.append(None)
        self.assertEqual(labels(SHOP, (2, 0), (("run", SAW),)), [(2, 0), (3, 0)])


class RunForTests(PlanChecks):
    def test_plans_without_parts(self):
        for number in NUMBERS:
            self.assertEqual(run_for(SHOP, (4, 1), (), number), ())

    def test_plans_of_runs_alone(self):
        plan = (("run", SAW), ("run", (("rep", 2, SAW), ("do", 1))))
        self.leads_to(SHOP, (2, 0), plan, (0, 2))
        self.leads_to(SHOP, (4, 1), plan, (2, 3))
        for number in NUMBERS:
            self.assertEqual(end_of_run(SHOP, (4, 1), run_for(SHOP, (4, 1), plan, number)), (2, 3))

    def test_what_earlier_pumps_have_made_is_used_up(self):
        plan = tuple(("pump", (("do", m),)) for m in range(4))
        self.leads_to(CHAIN, (1, 0, 0, 0), plan, (-1, -1, -1, -1))
        self.leads_to(CHAIN, (1, 0, 0, 0), (*plan, *plan[1:], *plan[2:], *plan[3:]), (-1, -1, -1, -1))
        run = (("rep", 10 ** 12, (("do", 3), ("do", 2))),)
        self.leads_to(CHAIN, (1, 0, 0, 0), (*plan[:3], ("run", run)), (-1, -1, -1, 10 ** 12))

    def test_pumps_that_gain_little_at_great_cost(self):
        book = read_book("kinds a b c d\nm: 1 a -> 2 a\nn: 1000 a + 1 b -> 2 b\no: 1000 a + 1000 b + 1 c -> 2 c\n"
                         "p: 999 c + 1000 b + 1000 a + 1 d -> 2 d")
        plan = tuple(("pump", (("do", m),)) for m in range(4))
        self.leads_to(book, (1, 1, 1, 1), plan, (-1, -1, -1, -1))
        self.leads_to(book, (1, 1, 1, 0), plan[:3], (-1, -1, -1, 0))

    def test_runs_behind_pumps_that_need_much(self):
        both = (("rep", 10 ** 9, (("do", 1), ("do", 0))),)
        plan = (("pump", SAW), ("run", (("rep", 10 ** 15, SELL),)), ("run", both))
        self.leads_to(SHOP, (2, 0), plan, (-1, 2 * 10 ** 15 + 2 * 10 ** 9))

    def test_a_pump_that_cannot_be_played_twice_at_once(self):
        # What a pump needs of an entry without end is there as often as it is played.
        book = read_book("kinds a b\nm: nothing -> 1 a\nn: 5 a -> 4 a + 1 b\no: 1 b -> 6 a + 1 b")
        plan = (("pump", (("do", 0),)), ("pump", (("rep", 7, (("do", 1),)), ("do", 2))))
        self.leads_to(book, (0, 0), plan, (-1, -1))

    def test_some_plans(self):
        for book, stock, plan, found in many_plans(94, 400):
            self.leads_to(book, stock, plan, found[-1])

    def test_long_plans(self):
        for book, stock, plan, found in many_plans(95, 40):
            dice = Random(len(plan))
            more, last = some_plan(dice, book, found[-1], 30)
            self.leads_to(book, stock, plan + more, last[-1])

    def test_a_move_that_is_made_once(self):
        # The change from making one kind to making another one is no pump and is made once.
        book = read_book("kinds key a b\nmake: 1 key -> 1 key + 1 a\nturn: 1 key -> nothing\nuse: 1 a -> 1 b")
        plan = (("pump", (("do", 0),)), ("run", (("do", 1),)), ("pump", (("do", 2),)))
        self.assertEqual(end_of(book, (1, 0, 0), plan), (0, -1, -1))
        self.leads_to(book, (1, 0, 0), plan, (0, -1, -1))

    def test_the_deepest_runs(self):
        run = nested_run(30)
        self.leads_to(SHOP, (2, 0), (("run", run),), end_of(SHOP, (2, 0), (("run", run),)))
        other = (("rep", 3, nested_run(29)), *SELL)
        self.leads_to(SHOP, (2, 0), (("pump", run), ("run", run), ("pump", other)), (-1, -1))

    def test_the_deepest_pumps(self):
        words = "kinds a b c\nturn: 1 a -> 1 b\nback: 1 b -> 1 a\nmake: 1 b -> 1 b + 1 c\nuse: 1 c -> nothing"
        book = read_book(words)
        turn, back, make, use = (("do", m) for m in range(4))
        for times in (1, 2, 3, 50, 10 ** 9):
            # What is nested makes something each time.
            run = deepened((make, make, use), times, 29, (make, use), (make,))
            self.check_deepest_pump(book, (1, 0, 0), (turn, ("rep", times, run), back), (1, 0, -1))
            # What is nested uses up what was made before, and the end of it.
            run = deepened((use, use), times, 29, (use,), (use,))
            before = ("rep", times * length(run) + 1, (make,))
            self.check_deepest_pump(book, (1, 0, 0), (turn, before, back, ("rep", times, run)), (1, 0, -1))
            # What is nested turns one kind to another one and back.
            run = deepened((turn, back, turn), times, 29, (turn,), ())
            many = times * change(book, run)[1]
            back_again = ("rep", many, (back, turn, back))
            self.check_deepest_pump(book, (many, 0, 0), (("rep", times, run), make, back_again), (many, 0, -1))

    def test_the_deepest_pumps_with_nothing_to_spare(self):
        book = read_book("kinds a b c\nturn: 1 a -> 1 b\nback: 1 b -> 1 a\nmake: nothing -> 1 c")
        turn, back, make = (("do", m) for m in range(3))
        # Each time all of a is turned to b and back again, so that no turn can be made earlier or later.
        run = deepened((turn, turn), 2, 29, (turn,), ())
        many = 2 * length(run)
        self.check_deepest_pump(book, (many, 0, 0), (("rep", 2, run), make, ("rep", many, (back,))), (many, 0, -1))

    def check_deepest_pump(self, book, stock, run, end):
        self.assertTrue(is_run(book, run))
        self.assertFalse(is_run(book, (("rep", 2, run),)))
        self.assertEqual(end_of(book, stock, (("pump", run),)), end)
        self.leads_to(book, stock, (("pump", run),), end)
        self.leads_to(book, stock, (("pump", run), ("run", run), ("pump", run)), end)

    def test_wrong_values(self):
        for value in (None, (("run", ()),), (("pump", SELL),), (("run", SELL),), (("run", SAW), ("run", SAW), True)):
            for number in NUMBERS:
                with self.assertRaises(BadPlan):
                    run_for(SHOP, (2, 0), value, number)
        with self.assertRaises(BadPlan):
            run_for(FULL, (0,) * 6, (("pump", (("do", 0),)),), 1)


if __name__ == "__main__":
    unittest.main()
