"""Tests of sessions: 9.1 to 9.5."""

import unittest
from random import Random

from mintlaw.histories import carry_out, is_history
from mintlaw.books import is_book
from mintlaw.recalls import refunds, strike
from mintlaw.runs import end_of_run, need, stops_at
from mintlaw.sessions import Session
from mintlaw.texts import print_book, print_run, print_stock, read_book
from tests.samples import BAD_NAMES, SHOP, right_runs, small_plays
from tests.tales import TALE, TRADE, some_recall, tales

LINES = (
    "forge north ann 6 wood",
    "make north ann saw 3 wood",
    "make north ann sell 2 gold",
    "hand north ann bob 1 gold",
    "send north bob 7 1 gold",
    "land south cy 7",
    "forge south cy 1 wood + 1 gold",
    "send south cy 3 1 wood + 2 gold",
)
QUESTIONS = ("holding north ann", "way", "strike 0", "refunds 0", "need saw", "try 2 wood : saw")
# One line of each form; each may be put behind the lines above.
FORMS = ("make north ann saw 3 wood", "hand north ann bob 1 wood", "send north ann 9 1 wood", "land south cy 3",
         "forge north ann 1 wood", "holding north ann", "way", "strike 0 6", "refunds 0 6", "need 2 x (saw); sell",
         "try 5 wood + 1 gold : sell; saw", "add melt: 1 gold -> 1..2 wood", "drop sell")


def line_of(book, event):
    """Return the line that enters an event."""
    word, shard, player, *rest = event
    if word == "make":
        rest[0] = book[1][rest[0]][0]
    if word != "land":
        rest[-1] = print_stock(book, rest[-1])
    return " ".join([word, shard, player, *[str(item) for item in rest]])


def trading():
    """Return a session behind the lines above."""
    session = Session(TRADE)
    for line in LINES:
        session.enter(line)
    return session


class SessionChecks(unittest.TestCase):
    def answers(self, session, line, *expected):
        """Check the answer to a line, and that a refused line and a question change nothing."""
        before = session.book(), session.history(), session.enter("way"), session.enter("holding north ann")
        self.assertEqual(session.enter(line), list(expected), line)
        if expected[0].startswith("no ") or line.split(" ")[0] in ("holding", "way", "strike", "refunds", "need", "try"):
            after = session.book(), session.history(), session.enter("way"), session.enter("holding north ann")
            self.assertEqual(after, before)

    def after_trade(self, line, *expected):
        """Check the answer to a line behind the lines above."""
        session = trading()
        self.answers(session, line, *expected)
        return session


class BeginningTests(SessionChecks):
    def test_a_new_session(self):
        session = Session(TRADE)
        self.assertEqual(session.book(), TRADE)
        self.assertEqual(session.history(), ())
        self.answers(session, "way", "nothing")
        self.answers(session, "holding north ann", "nothing")
        self.answers(session, "strike 0", "no recall")

    def test_methods_stand_in_the_class(self):
        for name in ("__init__", "enter", "book", "history"):
            self.assertIn(name, vars(Session))

    def test_answers_are_new_lists(self):
        session = trading()
        session.enter("way").append("more")
        self.assertEqual(session.enter("way"), ["3 1 wood + 2 gold"])
        self.assertIs(type(session.enter("wrong")), list)

    def test_sessions_are_apart(self):
        first, second = Session(TRADE), Session(TRADE)
        first.enter(LINES[0])
        first.enter("drop sell")
        self.assertEqual((second.book(), second.history()), (TRADE, ()))


class EventTests(SessionChecks):
    def test_each_line(self):
        session = Session(TRADE)
        for number, line in enumerate(LINES):
            self.answers(session, line, f"event {number}")
            self.assertEqual(session.history(), TALE[:number + 1])
        self.assertEqual(session.book(), TRADE)

    def test_items_in_any_order(self):
        session = Session(TRADE)
        self.answers(session, "forge a b 1 gold + 20 wood", "event 0")
        self.assertEqual(session.history(), (("forge", "a", "b", (20, 1)),))
        self.answers(session, f"forge a b {10 ** 30} wood", "event 1")
        self.answers(session, f"forge a b {10 ** 30} wood", "event 2")
        self.answers(session, "holding a b", f"{2 * 10 ** 30 + 20} wood + 1 gold")

    def test_the_same_line_by_line_and_as_a_whole(self):
        for tale in tales(341, 120):
            session = Session(tale.book)
            for number, event in enumerate(tale.events):
                self.assertEqual(session.enter(line_of(tale.book, event)), [f"event {number}"])
            history = session.history()
            self.assertEqual(history, tuple(tale.events))
            self.assertTrue(is_history(tale.book, history))
            holdings, way = carry_out(tale.book, history)
            for shard, player, stock in holdings:
                self.assertEqual(session.enter(f"holding {shard} {player}"), [print_stock(tale.book, stock)])
            lines = [f"{ticket} {print_stock(tale.book, stock)}" for ticket, stock in way]
            self.assertEqual(session.enter("way"), lines or ["nothing"])

    def test_moves_and_ranges(self):
        self.after_trade("make north ann cut 3 wood", "no move")
        self.after_trade("make north ann wood 3 wood", "no move")
        self.after_trade("make north ann saw 1 wood", "no range")
        self.after_trade("make north ann saw 4 wood", "no range")
        self.after_trade("make north ann saw 2 wood + 1 gold", "no range")
        self.after_trade("make north ann saw nothing", "no range")
        self.after_trade("make north ann saw 2 wood", "event 8")
        self.after_trade("make north ann sell 1 gold", "no units")
        self.after_trade("make south ann saw 3 wood", "no units")

    def test_names_of_players_and_shards_may_be_those_of_others(self):
        session = Session(TRADE)
        for number, line in enumerate(("forge saw saw 9 wood", "make saw saw saw 3 wood", "hand saw saw wood 1 wood",
                                       "send saw saw 5 1 wood", "land wood saw 5", "make saw saw sell 1 gold")):
            self.answers(session, line, f"event {number}")
        self.answers(session, "holding saw saw", "3 wood + 1 gold")

    def test_units(self):
        self.after_trade("hand north ann bob 2 wood + 1 gold", "event 8")
        self.after_trade("hand north ann bob 3 wood", "no units")
        self.after_trade("hand north ann bob 2 gold", "no units")
        self.after_trade("hand north ann bob nothing", "event 8")
        self.after_trade("hand south ann cy 1 wood", "no units")
        self.after_trade("send north ann 9 3 wood", "no units")
        self.after_trade("send north ann 9 nothing", "event 8")

    def test_tickets(self):
        for ticket in ("3", "7"):
            self.after_trade(f"send north ann {ticket} 1 wood", "no ticket")
        self.after_trade("land south cy 7", "no ticket")
        self.after_trade("land south cy 4", "no ticket")
        session = self.after_trade("land east ann 3", "event 8")
        self.answers(session, "land east ann 3", "no ticket")
        self.answers(session, "send north ann 3 1 wood", "no ticket")
        self.answers(session, "holding east ann", "1 wood + 2 gold")
        self.answers(session, f"send north ann {10 ** 30} 1 wood", "event 9")
        self.answers(session, "way", f"{10 ** 30} 1 wood")

    def test_which_word_goes_ahead(self):
        # Each of these lines is wrong in two ways or more.
        self.after_trade("make north zoe cut 99 gold", "no move")
        self.after_trade("make north zoe saw 99 gold", "no range")
        self.after_trade("send north zoe 7 99 gold", "no ticket")
        self.after_trade("make north ann ann 1 tin", "no form")
        self.after_trade("make north ann cut 0 wood", "no form")
        self.after_trade("hand north zoe zoe 99 gold", "no form")
        self.after_trade("send north Zoe 7 99 gold", "no form")

    def test_two_hundred_events(self):
        session = Session(TRADE)
        for number in range(200):
            self.assertEqual(session.enter("forge a b 1 wood"), [f"event {number}"])
        for line in ("forge a b 1 wood", "make a b cut 99 gold", "make a b saw 99 gold", "hand a b c 999 gold",
                     "send a b 1 999 gold", "land a b 9", "hand a b c 1 wood"):
            self.answers(session, line, "no room")
        for line in ("forge a b 1 tin", "hand a b b 1 wood", "land a b x", "make a b cut 0 wood", "forge a 1 wood"):
            self.answers(session, line, "no form")
        self.assertEqual(len(session.history()), 200)
        self.answers(session, "holding a b", "200 wood")
        self.answers(session, "strike 0 199", "struck")
        self.answers(session, "strike 200", "no recall")
        self.answers(session, "drop saw", "dropped 0")

    def test_199_events(self):
        session = Session(TRADE)
        for _ in range(199):
            session.enter("forge a b 1 wood")
        self.answers(session, "hand a b c 999 gold", "no units")
        self.answers(session, "hand a b c 199 wood", "event 199")
        self.answers(session, "hand a b c 999 gold", "no room")


class QuestionTests(SessionChecks):
    def test_examples(self):
        self.after_trade("holding north ann", "2 wood + 1 gold")
        self.after_trade("holding south cy", "nothing")
        self.after_trade("holding kind1 zz9", "nothing")
        self.after_trade("way", "3 1 wood + 2 gold")
        self.after_trade("strike 0", "struck 1 2 3 4 5 7")
        self.after_trade("strike 0 6", "struck 1 2 3 4 5 7")
        self.after_trade("strike 6", "struck 7")
        self.after_trade("refunds 0", "north ann 4 wood")
        self.after_trade("refunds 0 6", "north ann 4 wood", "south cy 1 wood + 1 gold")
        self.after_trade("need 7 x (saw); sell", "2 wood")
        self.after_trade("need nothing", "nothing")
        self.after_trade("try 5 wood : sell", "end 2 gold")
        self.after_trade("try 5 wood : sell; sell", "stops 1")
        self.after_trade("try nothing : nothing", "end nothing")
        self.after_trade("try nothing : saw", "stops 0")

    def test_what_is_under_way(self):
        session = trading()
        session.enter("send north ann 20 nothing")
        session.enter("send north ann 1 1 gold")
        self.answers(session, "way", "1 1 gold", "3 1 wood + 2 gold", "20 nothing")

    def test_nothing_to_strike_or_to_refund(self):
        session = Session(TRADE)
        session.enter("forge a b 1 wood")
        self.answers(session, "strike 0", "struck")
        self.answers(session, "refunds 0", "nothing")

    def test_numbers_that_are_no_recall(self):
        for numbers in ("1", "0 1", "6 0", "0 0", "8", "0 6 8", str(10 ** 30)):
            self.after_trade(f"strike {numbers}", "no recall")
            self.after_trade(f"refunds {numbers}", "no recall")

    def test_recalls_of_tales(self):
        dice = Random(342)
        for tale in tales(343, 80):
            session = Session(tale.book)
            for event in tale.events:
                session.enter(line_of(tale.book, event))
            recall = some_recall(dice, tale.events)
            if recall:
                numbers = " ".join(str(number) for number in recall)
                struck = strike(tale.book, tuple(tale.events), recall)[0]
                self.answers(session, f"strike {numbers}", " ".join(["struck", *[str(number) for number in struck]]))
                rows = refunds(tale.book, tuple(tale.events), recall)
                lines = [f"{shard} {player} {print_stock(tale.book, stock)}" for shard, player, stock in rows]
                self.answers(session, f"refunds {numbers}", *(lines or ["nothing"]))

    def test_runs(self):
        for book, stock, run in small_plays(344, 100):
            session = Session(book)
            self.answers(session, f"need {print_run(book, run)}", print_stock(book, need(book, run)))
            end = end_of_run(book, stock, run)
            told = f"stops {stops_at(book, stock, run)}" if end is None else f"end {print_stock(book, end)}"
            self.answers(session, f"try {print_stock(book, stock)} : {print_run(book, run)}", told)
        for run in right_runs(SHOP):
            self.answers(Session(SHOP), f"need {print_run(SHOP, run)}", print_stock(SHOP, need(SHOP, run)))

    def test_very_great_numbers(self):
        run = "saw"
        for _ in range(29):
            run = f"{10 ** 30} x ({run})"
        self.after_trade(f"need {run}", "2 wood")
        self.after_trade(f"try 2 wood : {run}", f"end {10 ** 870 + 2} wood")
        self.after_trade(f"try 2 wood : {run}; sell; {run.replace('saw', 'sell')}; saw",
                         f"stops {10 ** 870 + 1 + (10 ** 870 + 2) // 5 - 1}")
        self.after_trade(f"need 2 x ({run})", "no form")


class EditTests(SessionChecks):
    def test_adding_a_move(self):
        session = self.after_trade("add melt: 1 gold -> 1..2 wood", "move 2")
        self.assertEqual(session.book()[1][2], ("melt", (0, 1), (1, 0), (2, 0)))
        self.assertEqual(session.book()[:1], TRADE[:1])
        self.answers(session, "make north ann melt 2 wood", "event 8")
        self.assertEqual(session.history()[8], ("make", "north", "ann", 2, (2, 0)))
        self.answers(session, "add more: nothing -> nothing", "move 3")
        self.assertEqual(print_book(session.book()).split("\n")[3:], ["melt: 1 gold -> 1..2 wood",
                                                                     "more: nothing -> nothing"])

    def test_names_of_kinds_and_moves(self):
        for name in ("wood", "gold", "saw", "sell"):
            self.after_trade(f"add {name}: 1 gold -> 1 wood", "no name")
        for name in BAD_NAMES:
            if "\n" not in name and name.isascii():
                self.after_trade(f"add {name}: 1 gold -> 1 wood", "no form")

    def test_eight_moves(self):
        session = trading()
        for number in range(2, 8):
            self.answers(session, f"add m{number}: 1 gold -> 1 wood", f"move {number}")
        self.answers(session, "add m8: 1 gold -> 1 wood", "no room")
        self.answers(session, "add saw: 1 gold -> 1 wood", "no name")
        self.answers(session, "add wood: 1 gold -> 1 wood", "no name")
        self.answers(session, "add saw: 1 gold -> 1 tin", "no form")
        self.answers(session, "drop m4", "dropped 4")
        self.answers(session, "add m8: 1 gold -> 1 wood", "move 7")
        self.assertTrue(is_book(session.book()))

    def test_dropping_moves_and_the_indexes_behind(self):
        session = Session(read_book("kinds a b\nm: 1 a -> 1 b\nn: 1 b -> 2 a\no: 1 a -> 1..2 a"))
        for line in ("forge s p 5 a", "make s p o 2 a", "make s p n 2 a", "make s p m 1 b", "make s p o 1 a"):
            session.enter(line)
        self.answers(session, "make s p n 2 a", "event 4")
        self.assertEqual([event[3] for event in session.history()[1:]], [2, 0, 2, 1])
        for name, word in (("m", "no use"), ("n", "no use"), ("o", "no use"), ("p", "no move"), ("a", "no move")):
            self.answers(session, f"drop {name}", word)
        session = Session(session.book())
        for line in ("forge s p 5 a", "make s p o 2 a", "make s p m 1 b"):
            session.enter(line)
        self.answers(session, "drop n", "dropped 1")
        self.assertEqual([move[0] for move in session.book()[1]], ["m", "o"])
        self.assertEqual(session.history()[1:], (("make", "s", "p", 1, (2, 0)), ("make", "s", "p", 0, (0, 1))))
        self.answers(session, "drop o", "no use")
        self.answers(session, "make s p n 2 a", "no move")
        self.answers(session, "add n: 1 b -> nothing", "move 2")
        self.answers(session, "make s p n nothing", "event 3")
        self.answers(session, "make s p o 2 a", "event 4")
        self.assertEqual([event[3] for event in session.history()[1:]], [1, 0, 2, 1])
        self.assertEqual(session.enter("holding s p"), [print_stock(session.book(), carry_out(
            session.book(), session.history())[0][0][2])])

    def test_tickets_are_no_moves(self):
        session = Session(TRADE)
        for line in ("forge a b 9 wood", "send a b 1 1 wood", "send a b 2 1 wood", "land a b 1"):
            session.enter(line)
        self.answers(session, "drop sell", "dropped 1")
        self.answers(session, "drop saw", "dropped 0")
        self.assertEqual([event[3] for event in session.history()[1:]], [1, 2, 1])

    def test_dropping_all_moves(self):
        session = Session(TRADE)
        session.enter("forge a b 9 wood")
        self.answers(session, "drop saw", "dropped 0")
        self.answers(session, "drop sell", "dropped 0")
        self.assertEqual(session.book(), (TRADE[0], ()))
        self.answers(session, "need saw", "no form")
        self.answers(session, "need nothing", "nothing")
        self.answers(session, "drop sell", "no move")
        self.answers(session, "holding a b", "9 wood")

    def test_runs_are_those_of_the_book_as_it_is(self):
        session = Session(TRADE)
        self.answers(session, "try 1 gold : melt", "no form")
        session.enter("add melt: 1 gold -> 7 wood")
        self.answers(session, "try 1 gold : melt", "end 7 wood")
        session.enter("drop saw")
        self.answers(session, "try 1 gold : melt; saw", "no form")
        self.answers(session, "try 1 gold : melt; sell", "end 2 wood + 2 gold")


class FormTests(SessionChecks):
    def test_each_form_is_right(self):
        for line in FORMS:
            answer = trading().enter(line)
            self.assertNotEqual(answer, ["no form"], line)

    def test_other_spaces(self):
        for line in (*LINES, *FORMS):
            for at, sign in enumerate(line):
                if sign == " ":
                    self.after_trade(line[:at] + "  " + line[at + 1:], "no form")
                    self.after_trade(line[:at] + line[at + 1:], "no form")
            self.after_trade(line + " ", "no form")
            self.after_trade(" " + line, "no form")

    def test_words_left_out_or_more(self):
        for line in FORMS:
            words = line.split(" ")
            for many in range(1, len(words)):
                cut = " ".join(words[:many])
                # What is left may have the form, too.
                if cut not in ("strike 0", "refunds 0") and not cut.endswith("(saw);"):
                    self.after_trade(cut, "no form")
            self.after_trade(line + " more", "no form")
            self.after_trade(words[0].upper() + line[len(words[0]):], "no form")
            self.after_trade(words[0] + "s" + line[len(words[0]):], "no form")

    def test_lines_of_no_form(self):
        for line in ("", " ", "  ", "make", "event 0", "history", "book", "no", "way way", "way nothing", "holding",
                     "holding north", "strike", "refunds", "need", "try", "try 5 wood", "try : saw", "try 5 wood :",
                     "try 5 wood: saw", "try 5 wood :saw", "try 5 wood : saw : saw", "add", "add saw", "drop", "add ",
                     "drop saw sell", "#", "hand north ann", "try 5 wood : nothing; saw", "~", "way\t"):
            self.after_trade(line, "no form")

    def test_names(self):
        for name in BAD_NAMES:
            if name.isascii() and "\n" not in name and " " not in name:
                for line in ("make {} ann saw 3 wood", "make north {} saw 3 wood", "make north ann {} 3 wood",
                             "hand {} ann bob 1 wood", "hand north {} bob 1 wood", "hand north ann {} 1 wood",
                             "send {} ann 9 1 wood", "send north {} 9 1 wood", "land {} cy 3", "land south {} 3",
                             "forge {} ann 1 wood", "forge north {} 1 wood", "holding {} ann", "holding north {}",
                             "drop {}"):
                    self.after_trade(line.format(name), "no form")

    def test_stocks(self):
        for stock in ("", "0 wood", "01 wood", "1 tin", "1", "wood", "1 wood +1 gold", "1 wood + 1 wood", "endless wood",
                      "1..2 wood", f"{10 ** 30 + 1} wood", "-1 wood", "1 wood, 1 gold", "nothing + 1 wood", "+1 wood",
                      "1  wood", "1 wood + ", "kinds", "1 Wood"):
            for line in ("make north ann saw {}", "hand north ann bob {}", "send north ann 9 {}", "forge north ann {}",
                         "try {} : saw"):
                self.after_trade(line.format(stock), "no form")

    def test_numbers(self):
        for word in ("00", "01", "-1", "+1", "1.0", "x", "", str(10 ** 30 + 1), "1,", "one", "0x1"):
            self.after_trade(f"send north ann {word} 1 wood", "no form")
            self.after_trade(f"land south cy {word}", "no form")
            self.after_trade(f"strike {word}", "no form")
            self.after_trade(f"strike 0 {word}", "no form")
            self.after_trade(f"refunds {word} 6", "no form")
            self.after_trade(f"refunds {word}", "no form")
        for line in ("send north ann 0 1 wood", "land south cy 0"):
            self.after_trade(line, "no form")

    def test_runs(self):
        for run in ("", "cut", "saw;sell", "saw; ", "2 x saw", "0 x (saw)", "1 x (nothing)", "2 x ()", "wood", "do",
                    f"{10 ** 30 + 1} x (saw)", "02 x (saw)", "saw; nothing", "(saw)", "2 x (saw", "saw)"):
            self.after_trade(f"need {run}", "no form")
            self.after_trade(f"try 5 wood : {run}", "no form")

    def test_lines_of_moves(self):
        for line in ("", "melt", "melt:", "melt: 1 gold", "melt: 1 gold -> ", "melt: 1 gold->1 wood", "melt 1 gold -> 1 wood",
                     "melt: 1 tin -> 1 wood", "melt: 1 gold -> 1 tin", "melt: 1001 gold -> 1 wood", "melt: 0 gold -> 1 wood",
                     "melt: 1 gold -> 2..1 wood", "melt: 1 gold -> 1..1 wood", "melt: 1 gold -> 1..1001 wood",
                     "melt: 1..2 gold -> 1 wood", "Melt: 1 gold -> 1 wood", "melt : 1 gold -> 1 wood", "kinds wood gold",
                     "melt: endless gold -> 1 wood", "melt: 1 gold + 1 gold -> 1 wood"):
            self.after_trade(f"add {line}", "no form")

    def test_any_lines(self):
        dice = Random(345)
        signs = [chr(code) for code in range(32, 127)]
        session = trading()
        words = " ".join((*LINES, *FORMS)).split(" ")
        for _ in range(4000):
            line = " ".join(dice.choice(words) for _ in range(dice.randint(1, 7)))
            if dice.random() < 0.3:
                at = dice.randrange(len(line) + 1)
                line = line[:at] + dice.choice(signs) + line[at + dice.randint(0, 1):]
            answer = session.enter(line)
            self.assertTrue(answer and all(type(row) is str for row in answer))
        self.assertTrue(is_book(session.book()))
        self.assertTrue(is_history(session.book(), session.history()))
        carry_out(session.book(), session.history())


if __name__ == "__main__":
    unittest.main()
