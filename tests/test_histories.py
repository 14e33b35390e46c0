"""Tests of histories, holdings, logs and audits: 7.1 to 7.5."""

import unittest
from random import Random

from mintlaw.errors import BadLogs, NotPossible
from mintlaw.histories import audit, carry_out, flow, is_history, logs_of, merged
from mintlaw.prices import are_prices, parting
from tests.samples import BAD_NAMES, BARE, NO_INTEGERS, SHOP, odd_values, spoilt
from tests.tales import TALE, TRADE, carried_by_hand, flow_by_hand, some_recall, tales


def with_event(at, event):
    """Return the tale with another event at a place."""
    return (*TALE[:at], event, *TALE[at + 1:])


class FormTests(unittest.TestCase):
    def test_histories(self):
        self.assertIs(is_history(TRADE, TALE), True)
        self.assertIs(is_history(TRADE, ()), True)
        for at in range(len(TALE)):
            self.assertIs(is_history(TRADE, TALE[:at]), True)
        for tale in tales(301, 80):
            self.assertIs(is_history(tale.book, tuple(tale.events)), True)

    def test_it_is_not_looked_at_whether_events_can_be_carried_out(self):
        for at in (0, 1, 2, 3, 6):
            self.assertIs(is_history(TRADE, TALE[:at] + TALE[at + 1:]), True)
        self.assertIs(is_history(TRADE, (("hand", "a", "b", "c", (10 ** 40, 0)),)), True)

    def test_stocks_may_be_nothing(self):
        nothing = (0, 0)
        self.assertIs(is_history(TRADE, (("hand", "a", "b", "c", nothing), ("send", "a", "b", 1, nothing),
                                         ("land", "c", "b", 1), ("forge", "a", "b", nothing))), True)
        book = (("a",), (("m", (1,), (0,), (0,)),))
        self.assertIs(is_history(book, (("make", "s", "p", 0, (0,)),)), True)

    def test_the_number_of_events(self):
        event = ("forge", "a", "b", (1, 1))
        self.assertIs(is_history(TRADE, (event,) * 200), True)
        self.assertIs(is_history(TRADE, (event,) * 201), False)

    def test_what_moves_may_give(self):
        for gives, right in (((2, 0), True), ((3, 0), True), ((1, 0), False), ((4, 0), False), ((2, 1), False),
                             ((0, 0), False), ((3,), False), ((3, 0, 0), False), ((True, 0), False)):
            self.assertIs(is_history(TRADE, (("make", "a", "b", 0, gives),)), right)
        for m, right in ((0, True), (1, False), (2, False), (-1, False), (-2, False), (False, False), ("saw", False)):
            self.assertIs(is_history(TRADE, (("make", "a", "b", m, (2, 0)),)), right)
        self.assertIs(is_history(BARE, (("make", "a", "b", 0, (0,)),)), False)

    def test_names(self):
        for name in BAD_NAMES:
            for at, event in enumerate(TALE):
                for place in (1, 2):
                    self.assertIs(is_history(TRADE, with_event(at, (*event[:place], name, *event[place + 1:]))), False)
            self.assertIs(is_history(TRADE, with_event(3, ("hand", "north", "ann", name, (0, 1)))), False)
        self.assertIs(is_history(TRADE, (("forge", "wood", "saw", (0, 1)),)), True)

    def test_handing_to_oneself(self):
        self.assertIs(is_history(TRADE, with_event(3, ("hand", "north", "ann", "ann", (0, 1)))), False)
        self.assertIs(is_history(TRADE, with_event(3, ("hand", "north", "ann", "north", (0, 1)))), True)

    def test_tickets(self):
        for ticket in (0, -1, True, "7", None, (7,)):
            self.assertIs(is_history(TRADE, (("send", "a", "b", ticket, (0, 1)),)), False)
            self.assertIs(is_history(TRADE, with_event(5, ("land", "south", "cy", ticket))), False)
        self.assertIs(is_history(TRADE, (("send", "a", "b", 10 ** 40, (0, 1)),)), True)
        self.assertIs(is_history(TRADE, (("send", "a", "b", 1, (0, 0)), ("land", "a", "b", 1))), True)
        self.assertIs(is_history(TRADE, (("send", "a", "b", 1, (0, 0)), ("land", "a", "b", True))), False)
        # Two sends, or two lands, with the same ticket; a land before its send, or without one.
        self.assertIs(is_history(TRADE, with_event(7, ("send", "south", "cy", 7, (1, 2)))), False)
        self.assertIs(is_history(TRADE, (*TALE, ("land", "north", "ann", 7))), False)
        self.assertIs(is_history(TRADE, (*TALE, ("land", "north", "ann", 3))), True)
        self.assertIs(is_history(TRADE, (*TALE, ("land", "north", "ann", 3), ("land", "north", "ann", 3))), False)
        self.assertIs(is_history(TRADE, TALE[:4] + (TALE[5], TALE[4])), False)
        self.assertIs(is_history(TRADE, TALE[:4] + TALE[5:]), False)
        self.assertIs(is_history(TRADE, (*TALE, ("send", "north", "ann", 7, (0, 0)))), False)

    def test_events_of_other_lengths(self):
        for at, event in enumerate(TALE):
            for other in (event[:-1], (*event, 0), (*event, (0, 0)), (event[0],), (), list(event), None,
                          (event[0].upper(), *event[1:]), ("x", *event[1:]), (None, *event[1:]), (event,)):
                self.assertIs(is_history(TRADE, with_event(at, other)), False, other)

    def test_words_of_other_events(self):
        for at, event in enumerate(TALE):
            for word in ("make", "hand", "send", "land", "forge"):
                if word != event[0]:
                    # The index of a move may be a ticket, too, if it is not 0.
                    right = word == "send" and event[0] == "make" and event[3] > 0
                    self.assertIs(is_history(TRADE, with_event(at, (word, *event[1:]))), right)

    def test_tales_spoilt_in_one_place(self):
        right = [value for value in spoilt(TALE, (True, None, "", "1", (), -1)) if is_history(TRADE, value)]
        # Only whole events can be left out: a make, a hand, a forge, a land or a send that has no land.
        self.assertEqual(len(right), 7)
        self.assertTrue(all(len(value) == 7 for value in right))

    def test_any_values(self):
        for value in (*odd_values(), list(TALE), {"north": TALE}, "make", 7):
            self.assertIs(is_history(SHOP, value), value == ())
            self.assertIs(is_history(SHOP, (value,)), False)
        for entry in NO_INTEGERS:
            for at in (0, 3, 4, 6):
                self.assertIs(is_history(TRADE, with_event(at, (*TALE[at][:-1], (0, entry)))), False)


class FlowTests(unittest.TestCase):
    def test_each_kind_of_event(self):
        ann, bob, cy = ("north", "ann"), ("north", "bob"), ("south", "cy")
        expected = [(None, (0, 0), ann, (6, 0)), (ann, (2, 0), ann, (3, 0)), (ann, (5, 0), ann, (0, 2)),
                    (ann, (0, 1), bob, (0, 1)), (bob, (0, 1), None, (0, 0)), (None, (0, 0), cy, (0, 1)),
                    (None, (0, 0), cy, (1, 1)), (cy, (1, 2), None, (0, 0))]
        self.assertEqual([flow(TRADE, TALE, number) for number in range(8)], expected)

    def test_some_tales(self):
        for tale in tales(302, 100):
            history = tuple(tale.events)
            for number in range(len(history)):
                self.assertEqual(flow(tale.book, history, number), flow_by_hand(tale.book, history, number))


class CarryOutTests(unittest.TestCase):
    def test_example(self):
        self.assertEqual(carry_out(TRADE, ()), ((), ()))
        holdings = (("north", "ann", (2, 1)), ("south", "cy", (0, 0)))
        self.assertEqual(carry_out(TRADE, TALE), (holdings[:1], ((3, (1, 2)),)))
        self.assertEqual(carry_out(TRADE, TALE[:5]), ((("north", "ann", (2, 1)),), ((7, (0, 1)),)))
        self.assertEqual(carry_out(TRADE, TALE[:7])[0][1], ("south", "cy", (1, 2)))

    def test_order(self):
        history = (("forge", "s", "p", (1, 0)), ("forge", "s", "a", (1, 0)), ("forge", "a", "z", (2, 0)),
                   ("send", "s", "p", 9, (0, 0)), ("send", "s", "p", 10, (1, 0)), ("send", "s", "p", 2, (0, 0)))
        self.assertEqual(carry_out(TRADE, history), (
            (("a", "z", (2, 0)), ("s", "a", (1, 0))), ((2, (0, 0)), (9, (0, 0)), (10, (1, 0)))))

    def test_some_tales(self):
        for tale in tales(303, 150):
            history = tuple(tale.events)
            self.assertEqual(carry_out(tale.book, history), tale.ends())
            self.assertEqual(("ends", *tale.ends()), carried_by_hand(tale.book, history))

    def test_events_that_cannot_be_carried_out(self):
        dice = Random(304)
        stopped = 0
        for tale in tales(305, 200):
            history = tuple(tale.events)
            kept = tuple(event for number, event in enumerate(history) if number not in some_recall(dice, history))
            told = carried_by_hand(tale.book, kept)
            if told[0] == "ends":
                self.assertEqual(carry_out(tale.book, kept), told[1:])
            else:
                with self.assertRaises(NotPossible) as caught:
                    carry_out(tale.book, kept)
                self.assertEqual(caught.exception.number, told[1])
                stopped += 1
        self.assertGreater(stopped, 50)

    def test_one_unit_less(self):
        for units, number in (((6, 0), None), ((5, 0), None), ((4, 0), None), ((3, 0), 2), ((2, 0), 2), ((1, 0), 1)):
            history = with_event(0, ("forge", "north", "ann", units))
            if number is None:
                self.assertEqual(carry_out(TRADE, history)[0][0], ("north", "ann", (units[0] - 4, 1)))
                continue
            with self.assertRaises(NotPossible) as caught:
                carry_out(TRADE, history)
            self.assertEqual(caught.exception.number, number)

    def test_what_another_player_or_shard_has_is_of_no_use(self):
        for event in (("hand", "north", "bob", "ann", (1, 0)), ("hand", "south", "ann", "bob", (1, 0)),
                      ("send", "south", "ann", 1, (1, 0)), ("make", "south", "ann", 0, (2, 0))):
            with self.assertRaises(NotPossible) as caught:
                carry_out(TRADE, (TALE[0], event, TALE[1]))
            self.assertEqual(caught.exception.number, 1)

    def test_what_is_under_way_is_of_no_use(self):
        with self.assertRaises(NotPossible) as caught:
            carry_out(TRADE, (TALE[0], ("send", "north", "ann", 1, (6, 0)), ("hand", "north", "ann", "bob", (1, 0))))
        self.assertEqual(caught.exception.number, 2)

    def test_a_move_may_not_take_what_it_gives(self):
        with self.assertRaises(NotPossible):
            carry_out(TRADE, (("forge", "a", "b", (1, 0)), ("make", "a", "b", 0, (3, 0))))


class LogTests(unittest.TestCase):
    def test_example(self):
        logs = logs_of(TALE)
        self.assertEqual(sorted(logs), ["north", "south"])
        self.assertEqual(logs["north"], tuple((number, TALE[number]) for number in range(5)))
        self.assertEqual(logs["south"], tuple((number, TALE[number]) for number in range(5, 8)))
        self.assertEqual(logs_of(()), {})
        self.assertEqual(merged({}), ())

    def test_histories_and_logs_tell_the_same(self):
        for tale in tales(306, 100):
            history = tuple(tale.events)
            logs = logs_of(history)
            self.assertEqual(sorted(logs), sorted({event[1] for event in history}))
            for shard, log in logs.items():
                self.assertEqual(log, tuple((at, event) for at, event in enumerate(history) if event[1] == shard))
            self.assertEqual(merged(logs), history)
            self.assertEqual(merged(dict(reversed(list(logs.items())))), history)
            self.assertEqual(merged({**logs, "nowhere": ()}), history)

    def test_empty_logs(self):
        self.assertEqual(merged({"a": (), "b": ()}), ())

    def test_dicts_are_new(self):
        logs = logs_of(TALE)
        history = merged(logs)
        logs["north"] = ()
        self.assertEqual(merged(logs_of(TALE)), TALE)
        self.assertEqual(history, TALE)

    def test_logs_spoilt_in_each_way(self):
        logs = logs_of(TALE)
        north, south = logs["north"], logs["south"]
        self.assertEqual(merged({"north": north}), TALE[:5])
        self.are_no_logs({"south": south})
        self.are_no_logs({"north": north[1:], "south": south})
        self.are_no_logs({"north": north[:2] + north[3:], "south": south})
        self.are_no_logs({"north": (north[1], north[0], *north[2:]), "south": south})
        self.are_no_logs({"north": tuple(reversed(north)), "south": south})
        self.are_no_logs({"north": (*north, north[-1]), "south": south})
        self.are_no_logs({"north": (north[0], *north), "south": south})
        self.are_no_logs({"north": (*north, south[0]), "south": south[1:]})
        self.are_no_logs({"north": (*north, south[0]), "south": south})
        self.are_no_logs({"south": north, "north": south})
        self.are_no_logs({"north": north, "south": ((3, south[0][1]), *south)})
        self.are_no_logs({"north": north[:1], "south": ((0, south[0][1]),)})
        self.are_no_logs({"east": north, "south": south})
        self.are_no_logs({"north": north, "south": ((4, south[0][1]), *south[1:])})
        self.are_no_logs({"north": north, "south": (*south[:-1], (8, south[-1][1]))})
        self.are_no_logs({shard: tuple((number + 1, event) for number, event in log) for shard, log in logs.items()})
        self.are_no_logs({shard: tuple((number - 1, event) for number, event in log) for shard, log in logs.items()})
        self.are_no_logs({"north": ((False, north[0][1]), *north[1:]), "south": south})
        self.are_no_logs({"north": (north[0], (True, north[1][1]), *north[2:]), "south": south})

    def are_no_logs(self, logs):
        with self.assertRaises(BadLogs):
            merged(logs)

    def test_it_is_not_looked_at_whether_the_result_is_a_history(self):
        event = ("land", "north", "ann", 99)
        self.assertEqual(merged({"north": ((0, event), (1, event))}), (event, event))


class AuditTests(unittest.TestCase):
    def test_example(self):
        self.assertEqual(audit(TRADE, TALE, (2, 5)), (12, 2, 0, 0, 0, 0, 7, 0))
        self.assertEqual(audit(TRADE, TALE, (0, 0)), (0,) * 8)
        self.assertEqual(audit(TRADE, (), (2, 5)), ())

    def test_histories_that_are_not_carried_out(self):
        self.assertEqual(audit(TRADE, TALE[1:], (2, 5)), (2, 0, 0, 0, 0, 7, 0))
        self.assertEqual(audit(TRADE, (("hand", "a", "b", "c", (9, 9)), ("make", "a", "b", 1, (0, 1))), (1, 1)), (0, -4))

    def test_the_sum_of_the_gains(self):
        dice = Random(307)
        for tale in tales(308, 100):
            prices = tuple(dice.choice((0, 1, dice.randint(0, 9))) for _ in tale.book[0])
            gains = audit(tale.book, tuple(tale.events), prices)
            self.assertIs(type(gains), tuple)
            holdings, way = carry_out(tale.book, tuple(tale.events))
            stocks = [row[-1] for row in (*holdings, *way)]
            self.assertEqual(sum(gains), sum(sum(price * n for price, n in zip(prices, stock)) for stock in stocks))

    def test_only_forgeries_gain_by_right_prices(self):
        for tale in tales(309, 100):
            prices = parting(tale.book)[0]
            self.assertTrue(are_prices(tale.book, prices))
            for event, gain in zip(tale.events, audit(tale.book, tuple(tale.events), prices)):
                self.assertTrue(gain <= 0 or event[0] == "forge")


if __name__ == "__main__":
    unittest.main()
