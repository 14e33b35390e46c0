"""Tests of the cheapest choice of events to be left out: 8.8."""

import unittest
from itertools import combinations
from random import Random

from mintlaw.recalls import cheapest, refunds
from tests.tales import TALE, TRADE, carried_by_hand, flow_by_hand, some_recall, some_tale, tales


def worth_by_hand(prices, stock):
    """Return the value of a stock."""
    return sum(price * units for price, units in zip(prices, stock))


def cost_by_hand(book, history, recall, prices, choice):
    """Return the cost of a choice, or None if a land would be without its send."""
    left_out = (*recall, *choice)
    tickets = [event[3] for number, event in enumerate(history) if event[0] == "send" and number in choice]
    cost = 0
    held, least = {}, {}
    for number, event in enumerate(history):
        taker, take, getter, give = flow_by_hand(book, history, number)
        if event[0] == "land" and event[3] in tickets and number not in choice:
            return None
        if number in choice:
            cost += worth_by_hand(prices, give)
        if number in left_out:
            continue
        for kind in range(len(prices)):
            if taker is not None:
                held[(*taker, kind)] = held.get((*taker, kind), 0) - take[kind]
                least[(*taker, kind)] = min(least.get((*taker, kind), 0), held[(*taker, kind)])
            if getter is not None:
                held[(*getter, kind)] = held.get((*getter, kind), 0) + give[kind]
    return cost - sum(prices[key[2]] * units for key, units in least.items())


def cheapest_by_hand(book, history, recall, prices, most):
    """Return the best (cost, choice) of all choices."""
    found = []
    numbers = [number for number in range(len(history)) if number not in recall]
    for many in range(most + 1):
        for choice in combinations(numbers, many):
            cost = cost_by_hand(book, history, recall, prices, choice)
            if cost is not None:
                found.append((cost, many, choice))
    return min(found)[0], min(found)[2]


def sending_tale(dice):
    """Return a history in which what was forged is sent, sold and handed on bit by bit."""
    events = [("forge", "s", "p", (9, 9))]
    for ticket in range(1, dice.randint(2, 8)):
        stock = dice.choice(((1, 0), (0, 1), (1, 1), (2, 1)))
        sent = ("send", "s", "p", ticket, stock)
        made = ("make", "s", "p", 1, (0, 1))
        handed = ("hand", "s", "p", "q", stock)
        events.append(dice.choice((sent, sent, sent, handed, made if events.count(made) == 0 else sent)))
        if events[-1] == sent and dice.random() < 0.4:
            events.append(("land", dice.choice("st"), dice.choice("pq"), ticket))
    return tuple(events)


class CheapestTests(unittest.TestCase):
    def test_examples(self):
        # Refunds cost 4 wood. To leave out the sale costs 2 gold and spares 4 wood, but then 2 gold are missing.
        self.assertEqual(cheapest(TRADE, TALE, (0,), (1, 5), 0), (4, ()))
        self.assertEqual(cheapest(TRADE, TALE, (0,), (1, 5), 3), (4, ()))
        self.assertEqual(cheapest(TRADE, TALE, (), (1, 5), 3), (0, ()))
        self.assertEqual(cheapest(TRADE, (), (), (1, 5), 3), (0, ()))
        # Gold is worth less: the sale is left out, and two gold are given back.
        self.assertEqual(cheapest(TRADE, TALE[:3], (0,), (9, 1), 0), (36, ()))
        self.assertEqual(cheapest(TRADE, TALE[:3], (0,), (9, 1), 1), (20, (2,)))
        self.assertEqual(cheapest(TRADE, TALE[:4], (0,), (9, 1), 1), (21, (2,)))

    def test_none_one_two_and_three_numbers(self):
        history = [("forge", "s", "p", (4, 0))]
        history.extend(("hand", "s", "p", other, (1, 0)) for other in ("a", "b", "c", "d"))
        # Each event left out costs what it adds and spares as much: nothing is gained, so none is left out.
        for most in range(4):
            self.assertEqual(cheapest(TRADE, tuple(history), (0,), (3, 1), most), (12, ()))
        # A send adds nothing, so it may be left out for nothing.
        history = [history[0], *[("send", "s", "p", ticket, (1, 0)) for ticket in (5, 2, 9, 4)]]
        for most, choice in ((0, ()), (1, (1,)), (2, (1, 2)), (3, (1, 2, 3))):
            self.assertEqual(cheapest(TRADE, tuple(history), (0,), (3, 1), most), (12 - 3 * most, choice))

    def test_a_send_and_its_land(self):
        history = (("forge", "s", "p", (2, 0)), ("send", "s", "p", 1, (2, 0)), ("land", "t", "q", 1),
                   ("hand", "t", "q", "r", (2, 0)))
        # Without the send there is no land: both are left out, or none.
        self.assertEqual(cheapest(TRADE, history, (0,), (1, 1), 1), (2, ()))
        self.assertEqual(cheapest(TRADE, history[:3], (0,), (1, 1), 2), (2, ()))
        self.assertEqual(cost_by_hand(TRADE, history, (0,), (1, 1), (1,)), None)
        self.assertEqual(cost_by_hand(TRADE, history, (0,), (1, 1), (1, 2)), 4)
        cut = (history[0], ("send", "s", "p", 1, (2, 0)), ("send", "s", "p", 2, (1, 0)), ("land", "t", "q", 1))
        # The send that never lands is left out; the other one only together with its land, which is no better.
        self.assertEqual(cheapest(TRADE, cut, (0,), (1, 1), 3), (2, (2,)))

    def test_ties(self):
        sends = (("forge", "s", "p", (1, 0)), ("send", "s", "p", 1, (0, 0)), ("send", "s", "p", 2, (1, 0)),
                 ("send", "s", "p", 3, (1, 0)), ("forge", "s", "p", (1, 0)), ("send", "s", "p", 4, (1, 0)))
        # Fewer numbers first, then the least tuple.
        self.assertEqual(cheapest(TRADE, sends, (), (1, 1), 3), (0, (2,)))
        self.assertEqual(cheapest(TRADE, sends[:3], (), (1, 1), 3), (0, ()))
        self.assertEqual(cheapest(TRADE, sends[:3] + sends[4:], (0,), (1, 1), 3), (0, (2,)))
        self.assertEqual(cheapest(TRADE, sends[1:3], (), (1, 1), 1), (0, (1,)))
        self.assertEqual(cheapest(TRADE, (("send", "s", "p", 1, (1, 0)), ("send", "s", "p", 2, (1, 0))), (), (1, 0), 1),
                         (1, (0,)))
        self.assertEqual(cheapest(TRADE, sends, (0, 4), (0, 0), 3), (0, ()))

    def test_by_hand(self):
        dice = Random(331)
        for tale in tales(332, 150, 11):
            prices = tuple(dice.choice((0, 1, 1, 2, 7)) for _ in tale.book[0])
            self.check_by_hand(tale.book, tuple(tale.events), some_recall(dice, tale.events), prices)

    def test_choices_of_all_lengths(self):
        dice = Random(336)
        lengths = [0, 0, 0, 0]
        for _ in range(100):
            tale = sending_tale(dice)
            found = self.check_by_hand(TRADE, tale, (0,), (dice.randint(0, 3), dice.randint(0, 3)))
            lengths[len(found[1])] += 1
        self.assertGreater(min(lengths), 5, lengths)

    def check_by_hand(self, book, history, recall, prices):
        for most in range(4):
            found = cheapest(book, history, recall, prices, most)
            self.assertEqual(found, cheapest_by_hand(book, history, recall, prices, most))
        return found

    def test_the_cost_of_the_empty_choice(self):
        dice = Random(333)
        for tale in tales(334, 60):
            history, recall = tuple(tale.events), some_recall(dice, tale.events)
            prices = tuple(dice.randint(0, 9) for _ in tale.book[0])
            cost = sum(worth_by_hand(prices, row[2]) for row in refunds(tale.book, history, recall))
            self.assertEqual(cheapest(tale.book, history, recall, prices, 0), (cost, ()))

    def test_forty_events(self):
        dice = Random(335)
        for _ in range(2):
            tale = some_tale(dice, 40, 6)
            history, recall = tuple(tale.events), some_recall(dice, tale.events)
            prices = tuple(dice.randint(1, 9) for _ in tale.book[0])
            cost, choice = cheapest(tale.book, history, recall, prices, 3)
            self.assertEqual(cost, cost_by_hand(tale.book, history, recall, prices, choice))
            self.assertLessEqual(cost, cheapest_by_hand(tale.book, history, recall, prices, 1)[0])
            self.assertEqual(carried_by_hand(tale.book, history)[0], "ends")


if __name__ == "__main__":
    unittest.main()
