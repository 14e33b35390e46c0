"""Tests of recalls, striking and refunds: 8.1 to 8.7."""

import unittest
from itertools import product
from random import Random

from mintlaw.histories import carry_out, flow
from mintlaw.recalls import check_refunds, ends, is_recall, refund_paper, refunds, stands, strike
from tests.samples import BAD_NAMES, odd_values, spoilt
from tests.tales import TALE, TRADE, carried_by_hand, flow_by_hand, forgeries, sent_by_hand, some_recall, tales

# What two players get back when the first forgery of the tale is recalled: three sawn and two of five sold.
BACK = (("north", "ann", (4, 0)),)
BACK_PAPER = (("north", "ann", 0, 2),)


def recalled(seed, many, longest=25):
    """Return so many triples of a book, a history that was carried out, and a recall of it."""
    dice = Random(seed)
    return [(tale.book, tuple(tale.events), some_recall(dice, tale.events)) for tale in tales(seed, many, longest)]


def strike_by_hand(book, history, recall):
    """Return the numbers of the events that are struck: those that cannot be carried out behind the standing ones."""
    struck = []
    kept = []
    for number, event in enumerate(history):
        if number in recall:
            continue
        tickets = [other[3] for other in kept if other[0] == "send"]
        lost = event[0] == "land" and event[3] not in tickets
        if lost or carried_by_hand(book, (*kept, event))[0] == "stops":
            struck.append(number)
        else:
            kept.append(event)
    return tuple(struck), tuple(kept)


def shortages(book, history, recall):
    """Return the list of tuples (holder, number, takes anything, kind, shortage) of all events that take."""
    held = {}
    found = []
    for number, event in enumerate(history):
        if number in recall:
            continue
        taker, take, getter, give = flow_by_hand(book, history, number)
        for kind, units in enumerate(take):
            if taker is not None:
                found.append((taker, number, max(take) > 0, kind, units - held.get((*taker, kind), 0)))
        for kind, units in enumerate(take):
            if taker is not None:
                held[(*taker, kind)] = held.get((*taker, kind), 0) - units
        for kind, units in enumerate(give):
            if getter is not None:
                held[(*getter, kind)] = held.get((*getter, kind), 0) + units
    return found


def are_refunds_by_hand(book, value):
    """Tell whether a value has the form of refunds."""
    if type(value) is not tuple or not all(type(row) is tuple and len(row) == 3 for row in value):
        return False
    for shard, player, stock in value:
        names = [name for name in (shard, player) if isinstance(name, str) and name.isalnum() and name[0].isalpha()]
        if len(names) != 2 or type(stock) is not tuple or len(stock) != len(book[0]):
            return False
        if not all(type(entry) is int and entry >= 0 for entry in stock) or max(stock) == 0:
            return False
    holders = [row[:2] for row in value]
    return all(holder < other for holder, other in zip(holders, holders[1:]))


def check_by_hand(book, history, recall, value, paper):
    """Tell whether values are refunds and a right paper for them."""
    if not are_refunds_by_hand(book, value) or carried_by_hand(book, history, recall, value)[0] == "stops":
        return False
    rows = shortages(book, history, recall)
    wanted = [(row[:2], kind, units) for row in value for kind, units in enumerate(row[2]) if units > 0]
    if type(paper) is not tuple or len(paper) != len(wanted):
        return False
    for row, (holder, kind, units) in zip(paper, wanted):
        if type(row) is not tuple or [type(entry) for entry in row] != [str, str, int, int]:
            return False
        if row[:2] != holder or row[2] != kind or (holder, row[3], True, kind, units) not in rows:
            return False
    return True


class RecallTests(unittest.TestCase):
    def test_examples(self):
        for value, right in (((), True), ((0,), True), ((6,), True), ((0, 6), True), ((6, 0), False), ((0, 0), False),
                             ((1,), False), ((0, 1), False), ((8,), False), ((-2,), False), ((False,), False),
                             ([0], False), (0, False), (None, False), (((0,),), False), (("forge",), False)):
            self.assertIs(is_recall(TRADE, TALE, value), right, value)

    def test_all_tuples_of_two(self):
        for tale in tales(311, 10, 8):
            found = forgeries(tale.events)
            for pair in product(range(-1, 9), repeat=2):
                right = pair[0] < pair[1] and pair[0] in found and pair[1] in found
                self.assertIs(is_recall(tale.book, tuple(tale.events), pair), right)
            self.assertIs(is_recall(tale.book, tuple(tale.events), tuple(found)), True)

    def test_any_values(self):
        for value in (*odd_values(), *spoilt((0, 6))):
            self.assertIs(is_recall(TRADE, TALE, value), repr(value) in ("()", "(0,)", "(6,)"), value)
        self.assertIs(is_recall(TRADE, (("forge", "a", "b", (1, 1)),) * 2, (0, True)), False)


class StrikeTests(unittest.TestCase):
    def test_example(self):
        self.assertEqual(strike(TRADE, TALE, ()), ((), *carry_out(TRADE, TALE)))
        struck, holdings, way = strike(TRADE, TALE, (0,))
        # Nothing can be sawn, sold, handed and sent then; what was sent does not land, and too little is left to send.
        self.assertEqual(struck, (1, 2, 3, 4, 5, 7))
        self.assertEqual((holdings, way), ((("south", "cy", (1, 1)),), ()))
        self.assertEqual(strike(TRADE, TALE, (6,)), ((7,), (("north", "ann", (2, 1)), ("south", "cy", (0, 1))), ()))
        self.assertEqual(strike(TRADE, (), ()), ((), (), ()))

    def test_a_land_whose_send_was_struck(self):
        history = (("forge", "a", "p", (0, 1)), ("send", "a", "p", 4, (0, 1)), ("forge", "b", "q", (5, 5)),
                   ("land", "b", "q", 4), ("hand", "b", "q", "p", (5, 5)), ("hand", "b", "p", "q", (0, 6)))
        self.assertEqual(carried_by_hand(TRADE, history)[0], "stops")
        history = (*history[:4], ("hand", "b", "q", "p", (5, 6)), ("send", "b", "p", 9, (5, 6)), ("land", "c", "p", 9))
        self.assertEqual(strike(TRADE, history, (0,)), ((1, 3, 4, 5, 6), (("b", "q", (5, 5)),), ()))

    def test_a_send_of_nothing_is_not_struck(self):
        history = (("forge", "a", "p", (0, 1)), ("send", "a", "p", 4, (0, 0)), ("land", "b", "q", 4))
        self.assertEqual(strike(TRADE, history, (0,)), ((), (), ()))

    def test_by_hand(self):
        many = 0
        for book, history, recall in recalled(312, 200):
            struck, kept = strike_by_hand(book, history, recall)
            self.assertEqual(strike(book, history, recall), (struck, *carry_out(book, kept)))
            many += len(struck)
        self.assertGreater(many, 200)

    def test_what_stands_and_what_is_struck(self):
        for book, history, recall in recalled(313, 120):
            struck, holdings, way = strike(book, history, recall)
            kept = [number for number in range(len(history)) if number not in recall and number not in struck]
            self.assertEqual(carry_out(book, tuple(history[number] for number in kept)), (holdings, way))
            for number in struck:
                before = tuple(history[other] for other in kept if other < number)
                if history[number][0] != "land":
                    self.assertEqual(carried_by_hand(book, (*before, history[number])), ("stops", len(before)))

    def test_nothing_is_struck_if_all_can_be_carried_out(self):
        none = 0
        for book, history, recall in recalled(314, 150):
            if carried_by_hand(book, history, recall)[0] == "ends":
                self.assertEqual(strike(book, history, recall)[0], ())
                none += 1
        self.assertGreater(none, 30)


class RefundTests(unittest.TestCase):
    def test_example(self):
        self.assertEqual(refunds(TRADE, TALE, ()), ())
        self.assertEqual(refunds(TRADE, TALE, (0,)), BACK)
        self.assertEqual(refunds(TRADE, TALE, (6,)), (("south", "cy", (1, 1)),))
        self.assertEqual(refunds(TRADE, TALE, (0, 6)), (*BACK, ("south", "cy", (1, 1))))
        for units, right in ((4, True), (5, True), (3, False)):
            self.assertIs(stands(TRADE, TALE, (0,), (("north", "ann", (units, 0)),)), right)
        self.assertIs(stands(TRADE, TALE, (0,), ()), False)
        self.assertIs(stands(TRADE, TALE, (0,), (("south", "ann", (9, 9)),)), False)
        self.assertIs(stands(TRADE, TALE, (), ()), True)

    def test_standing_by_hand(self):
        dice = Random(315)
        answers = []
        for book, history, recall in recalled(316, 150):
            for share in (1, 0.8, 0.5):
                value = tuple(
                    (shard, player, stock) for shard in ("north", "south") for player in ("ann", "bob", "cy")
                    if dice.random() < share for stock in [tuple(dice.randint(0, 4) for _ in book[0])] if max(stock) > 0
                )
                told = carried_by_hand(book, history, recall, value)
                self.assertIs(stands(book, history, recall, value), told[0] == "ends")
                self.assertEqual(ends(book, history, recall, value), told[1:] if told[0] == "ends" else None)
                answers.append(told[0] == "ends")
        self.assertTrue(50 < sum(answers) < len(answers) - 50)

    def test_least_refunds(self):
        rows = 0
        for book, history, recall in recalled(317, 150):
            found = refunds(book, history, recall)
            self.assertTrue(are_refunds_by_hand(book, found))
            self.assertIs(stands(book, history, recall, found), True)
            # With one unit less of any kind anywhere the history does not stand.
            for at, (shard, player, stock) in enumerate(found):
                for kind, units in enumerate(stock):
                    if units > 0:
                        less = stock[:kind] + (units - 1,) + stock[kind + 1:]
                        other = ((shard, player, less),) if max(less) > 0 else ()
                        self.assertIs(stands(book, history, recall, found[:at] + other + found[at + 1:]), False)
                        rows += 1
        self.assertGreater(rows, 100)

    def test_other_refunds_are_not_less(self):
        dice = Random(318)
        for book, history, recall in recalled(319, 60, 12):
            found = {row[:2]: row[2] for row in refunds(book, history, recall)}
            holders = sorted({*found, ("north", "ann"), ("south", "bob")})
            for _ in range(20):
                stocks = [tuple(dice.randint(0, 6) for _ in book[0]) for _ in holders]
                value = tuple((*holder, stock) for holder, stock in zip(holders, stocks) if max(stock) > 0)
                if stands(book, history, recall, value):
                    for holder, stock in found.items():
                        told = dict(zip(holders, stocks))[holder]
                        self.assertTrue(all(low <= entry for low, entry in zip(stock, told)))

    def test_the_ends_behind_refunds(self):
        for book, history, recall in recalled(320, 120):
            found = refunds(book, history, recall)
            holdings, way = ends(book, history, recall, found)
            total = {}
            for shard, player, stock in (*carry_out(book, history)[0], *found):
                for kind, units in enumerate(stock):
                    total[(shard, player, kind)] = total.get((shard, player, kind), 0) + units
            for number in recall:
                _, shard, player, stock = history[number]
                for kind, units in enumerate(stock):
                    total[(shard, player, kind)] = total.get((shard, player, kind), 0) - units
            self.assertGreaterEqual(min(total.values(), default=0), 0)
            told = {(shard, player, kind): n for shard, player, stock in holdings for kind, n in enumerate(stock) if n}
            self.assertEqual(told, {key: units for key, units in total.items() if units > 0})
            self.assertEqual(way, carry_out(book, history)[1])

    def test_sends_go_on_behind_refunds(self):
        for book, history, recall in recalled(321, 60):
            way = ends(book, history, recall, refunds(book, history, recall))[1]
            for ticket, stock in way:
                self.assertEqual(stock, sent_by_hand(history)[ticket])


class PaperTests(unittest.TestCase):
    def test_example(self):
        self.assertEqual(refund_paper(TRADE, TALE, (0,)), BACK_PAPER)
        self.assertEqual(refund_paper(TRADE, TALE, ()), ())
        self.assertEqual(refund_paper(TRADE, TALE, (6,)), (("south", "cy", 0, 7), ("south", "cy", 1, 7)))
        self.assertIs(check_refunds(TRADE, TALE, (0,), BACK, BACK_PAPER), True)
        self.assertIs(check_refunds(TRADE, TALE, (), (), ()), True)

    def test_papers_with_the_least_numbers(self):
        rows = 0
        for book, history, recall in recalled(322, 150):
            found, paper = refunds(book, history, recall), refund_paper(book, history, recall)
            self.assertTrue(check_by_hand(book, history, recall, found, paper))
            self.assertIs(check_refunds(book, history, recall, found, paper), True)
            short = shortages(book, history, recall)
            stocks = {row[:2]: row[2] for row in found}
            for shard, player, kind, number in paper:
                units = stocks[(shard, player)][kind]
                fitting = [row[1] for row in short if row[0] == (shard, player) and row[2:] == (True, kind, units)]
                self.assertEqual(number, min(fitting))
                rows += 1
        self.assertGreater(rows, 100)

    def test_an_event_that_takes_none_of_the_kind(self):
        # What was missing before counts when units of another kind are taken; but not when nothing is taken.
        history = (("forge", "s", "p", (2, 2)), ("hand", "s", "p", "q", (2, 0)), ("hand", "s", "p", "q", (0, 1)),
                   ("hand", "s", "p", "q", (0, 0)), ("hand", "s", "p", "q", (0, 1)))
        found = (("s", "p", (2, 2)),)
        self.assertEqual(refunds(TRADE, history, (0,)), found)
        self.assertEqual(refund_paper(TRADE, history, (0,)), (("s", "p", 0, 1), ("s", "p", 1, 4)))
        for number, right in ((0, False), (1, True), (2, True), (3, False), (4, True), (5, False), (-4, False)):
            paper = (("s", "p", 0, number), ("s", "p", 1, 4))
            self.assertIs(check_refunds(TRADE, history, (0,), found, paper), right, number)
        for number in (0, 1, 2, 3):
            self.assertIs(check_refunds(TRADE, history, (0,), found, (("s", "p", 0, 1), ("s", "p", 1, number))), False)

    def test_other_right_papers(self):
        others = 0
        for book, history, recall in recalled(323, 200):
            found, paper = refunds(book, history, recall), refund_paper(book, history, recall)
            for at, row in enumerate(paper):
                for number in range(-1, len(history) + 1):
                    value = (*paper[:at], (*row[:3], number), *paper[at + 1:])
                    expected = check_by_hand(book, history, recall, found, value)
                    self.assertIs(check_refunds(book, history, recall, found, value), expected)
                    others += expected and number != row[3]
        self.assertGreater(others, 10)

    def test_only_the_least_refunds_have_a_paper(self):
        dice = Random(324)
        for book, history, recall in recalled(325, 60):
            found, paper = refunds(book, history, recall), refund_paper(book, history, recall)
            for at, (shard, player, stock) in enumerate(found):
                kind = dice.randrange(len(stock))
                for units in (stock[kind] + 1, stock[kind] - 1):
                    more = stock[:kind] + (units,) + stock[kind + 1:]
                    value = (*found[:at], (shard, player, more), *found[at + 1:])
                    self.assertIs(check_refunds(book, history, recall, value, paper), False)
            self.assertIs(check_refunds(book, history, recall, (*found, ("zz", "zz", (1,) * len(book[0]))), paper), False)
            others = [(number, row) for number, row in enumerate(found) if max(row[2]) > 0]
            for number, _ in others:
                self.assertIs(check_refunds(book, history, recall, found[:number] + found[number + 1:], paper), False)

    def test_values_spoilt_in_one_place(self):
        answers = []
        recall = (0, 6)
        found, paper = refunds(TRADE, TALE, recall), refund_paper(TRADE, TALE, recall)
        others = (True, False, None, "", "ann", "bob", (), -1, 0, 1, 2, 4, 7)
        for value in spoilt(found, others):
            answers.append(check_by_hand(TRADE, TALE, recall, value, paper))
            self.assertIs(check_refunds(TRADE, TALE, recall, value, paper), answers[-1], value)
        for value in spoilt(paper, others):
            answers.append(check_by_hand(TRADE, TALE, recall, found, value))
            self.assertIs(check_refunds(TRADE, TALE, recall, found, value), answers[-1], value)
        self.assertEqual(sum(answers), 0)

    def test_the_form_of_refunds(self):
        history = (("forge", "s", "p", (2, 2)), ("hand", "s", "p", "q", (1, 0)), ("hand", "s", "q", "r", (1, 0)),
                   ("send", "a", "q", 1, (0, 0)), ("hand", "s", "r", "p", (0, 0)))
        found = (("s", "p", (1, 0)),)
        paper = (("s", "p", 0, 1),)
        self.assertIs(check_refunds(TRADE, history, (0,), found, paper), True)
        for value in (list(found), (list(found[0]),), (("s", "p", [1, 0]),), (("s", "p", (True, 0)),),
                      (*found, ("s", "q", (0, 0))), (("a", "q", (0, 0)), *found), (*found, *found), None, 0, "",
                      (("s", "p", (1, 0, 0)),), (("s", "p", (1,)),), (("s", "p", (1, -1)),), (("s", "p", (1, 0), 0),)):
            self.assertIs(check_refunds(TRADE, history, (0,), value, paper), False)
        for value in (list(paper), (list(paper[0]),), (("s", "p", False, 1),), (("s", "p", 0, True),), paper * 2, (),
                      (("s", "p", 0),), (("s", "p", 0, 1, 1),), (("s", "q", 0, 1),), (("a", "p", 0, 1),),
                      (("s", "p", 1, 1),), (("s", "p", 0, 2),), (*paper, ("s", "p", 1, 1)), None, 0, ""):
            self.assertIs(check_refunds(TRADE, history, (0,), found, value), False)
        for name in BAD_NAMES:
            self.assertIs(check_refunds(TRADE, (), (), ((name, "p", (1, 0)),), ((name, "p", 0, 0),)), False)
        for value in odd_values():
            self.assertIs(check_refunds(TRADE, history, (0,), value, paper), False)
            self.assertIs(check_refunds(TRADE, history, (0,), (value,), paper), False)
            self.assertIs(check_refunds(TRADE, history, (0,), found, value), False)
            self.assertIs(check_refunds(TRADE, history, (0,), found, (value,)), False)

    def test_refunds_that_are_not_ascending(self):
        recall = (0, 6)
        found, paper = refunds(TRADE, TALE, recall), refund_paper(TRADE, TALE, recall)
        self.assertIs(check_refunds(TRADE, TALE, recall, found, paper), True)
        self.assertIs(check_refunds(TRADE, TALE, recall, found[::-1], (*paper[1:], paper[0])), False)
        self.assertIs(check_refunds(TRADE, TALE, recall, found, (*paper[1:], paper[0])), False)
        self.assertIs(check_refunds(TRADE, TALE, recall, found, (paper[0], paper[2], paper[1])), False)

    def test_a_paper_of_too_little(self):
        # What lacked first was less than what lacked in the end.
        history = (("forge", "s", "p", (2, 0)), ("hand", "s", "p", "q", (1, 0)), ("hand", "s", "p", "q", (1, 0)))
        self.assertIs(check_refunds(TRADE, history, (0,), (("s", "p", (2, 0)),), (("s", "p", 0, 2),)), True)
        self.assertIs(check_refunds(TRADE, history, (0,), (("s", "p", (1, 0)),), (("s", "p", 0, 1),)), False)
        self.assertIs(check_refunds(TRADE, history, (0,), (), ()), False)

    def test_a_player_twice(self):
        history = (("forge", "s", "p", (1, 1)), ("hand", "s", "p", "q", (1, 1)))
        paper = (("s", "p", 0, 1), ("s", "p", 1, 1))
        self.assertIs(check_refunds(TRADE, history, (0,), (("s", "p", (1, 1)),), paper), True)
        for first in ((0, 1), (1, 0), (1, 1)):
            value = (("s", "p", first), ("s", "p", (1, 1)))
            rows = tuple(("s", "p", kind, 1) for kind in range(2) if first[kind]) + paper
            self.assertIs(check_refunds(TRADE, history, (0,), value, rows), False)
        for name in (None, 1, True, ("p",), "P"):
            for value in ((("s", name, (1, 1)), ("s", "p", (1, 1))), ((name, "p", (1, 1)), ("s", "p", (1, 1)))):
                self.assertIs(check_refunds(TRADE, history, (0,), value, paper), False)

    def test_events_of_the_recall_are_no_proof(self):
        self.assertEqual(flow(TRADE, TALE, 0)[0], None)
        self.assertIs(check_refunds(TRADE, TALE, (0,), BACK, (("north", "ann", 0, 0),)), False)


if __name__ == "__main__":
    unittest.main()
