"""Tests of the texts of plans and verdicts: 11.1 to 11.5."""

import unittest
from random import Random

from mintlaw.errors import BadText
from mintlaw.integers import print_number
from mintlaw.plans import is_plan
from mintlaw.texts import print_run, print_stock, read_book
from mintlaw.verdict_texts import check_text, print_plan, print_verdict, read_plan, read_verdict
from mintlaw.verdicts import is_verdict, verdict
from tests.by_hand import losing_book, small_worlds
from tests.samples import BARE, MINT, SHOP, right_books, right_runs, some_book, some_entries, some_run
from tests.test_covering import SALE
from tests.test_verdicts import SALE_VERDICT

TEXT = """prices 1 2
loop 0
top 5 wood by nothing
top 3 wood + 1 gold by run sell
top 1 wood + 2 gold by run sell > run sell
most wood 5 by nothing
most gold 2 by 2 x (sell)"""
LINES = TEXT.split("\n")
SIGNS = "\n" + "".join(chr(code) for code in range(32, 127))


def with_line(number, line):
    """Return the text with another line, the first one being 1."""
    return "\n".join([*LINES[:number - 1], line, *LINES[number:]])


def print_by_hand(book, value):
    """Return the text of a verdict."""
    (prices, loop), pairs, answers = value
    lines = ["prices" + "".join(f" {price}" for price in prices), "loop" + "".join(f" {count}" for count in loop)]
    lines.extend(f"top {print_stock(book, row)} by {plan_by_hand(book, plan)}" for row, plan in pairs)
    for kind, answer in zip(book[0], answers):
        if answer[0] == "most":
            lines.append(f"most {kind} {answer[1]} by {print_run(book, answer[2])}")
        else:
            lines.append(f"endless {kind} by {plan_by_hand(book, answer[1])}")
    return "\n".join(lines)


def plan_by_hand(book, plan):
    """Return the text of a plan."""
    return " > ".join(f"{word} {print_run(book, run)}" for word, run in plan) or "nothing"


def named_by(book, at):
    """Return the book in which the kind or move at a place, the moves being behind the kinds, has the name `by`."""
    kinds, moves = book
    names = [*kinds, *(move[0] for move in moves)]
    if "by" in names:
        names[names.index("by")] = names[at]
    names[at] = "by"
    width = len(kinds)
    return tuple(names[:width]), tuple((name, *move[1:]) for name, move in zip(names[width:], moves))


def some_verdict(dice, book):
    """Return what has the form of a verdict, though it is hardly a right one."""
    width, many = len(book[0]), len(book[1])
    great = (0, 1, 7, 10 ** 30)

    def plan():
        size = dice.randint(0, 3) if many else 0
        return tuple((dice.choice(("run", "pump")), some_run(dice, many, dice.randint(1, 4))) for _ in range(size))

    def answer():
        if dice.random() < 0.5:
            return "end", plan()
        return "most", dice.choice(great), some_run(dice, many, 3) if many and dice.random() < 0.8 else ()

    parting = tuple(dice.choice(great) for _ in range(width)), tuple(dice.choice(great) for _ in range(many))
    rows = [tuple(dice.choice((-1, *great)) for _ in range(width)) for _ in range(dice.randint(0, 4))]
    return parting, tuple((row, plan()) for row in rows), tuple(answer() for _ in range(width))


class PlanTextTests(unittest.TestCase):
    def test_examples(self):
        self.assertEqual(print_plan(SHOP, ()), "nothing")
        plan = (("pump", (("do", 0),)), ("run", (("rep", 7, (("do", 1), ("do", 0))), ("do", 1))))
        self.assertEqual(print_plan(SHOP, plan), "pump saw > run 7 x (sell; saw); sell")
        self.assertEqual(read_plan(SHOP, "pump saw > run 7 x (sell; saw); sell"), plan)
        self.assertEqual(read_plan(SHOP, "nothing"), ())

    def test_reading_back(self):
        dice = Random(421)
        for book in right_books():
            self.assertEqual(read_plan(book, print_plan(book, ())), ())
            for run in right_runs(book):
                for plan in ((("run", run),), (("pump", run),), (("pump", run), ("run", run))):
                    if run != ():
                        text = print_plan(book, plan)
                        self.assertEqual(text, plan_by_hand(book, plan))
                        self.assertEqual(read_plan(book, text), plan)
            if book[1]:
                plan = tuple(("run", some_run(dice, len(book[1]), 3)) for _ in range(40))
                self.assertEqual(read_plan(book, print_plan(book, plan)), plan)

    def test_moves_with_the_words_of_plans(self):
        book = read_book("kinds top most\nrun: 1 top -> 1 most\npump: 1 most -> 1 top\nprices: 1 top -> nothing")
        plan = (("run", (("do", 0), ("do", 1))), ("pump", (("do", 1), ("do", 0))), ("run", (("do", 2),)))
        self.assertEqual(print_plan(book, plan), "run run; pump > pump pump; run > run prices")
        self.assertEqual(read_plan(book, print_plan(book, plan)), plan)
        found = verdict(book, (1, 1))
        self.assertEqual(read_verdict(book, print_verdict(book, found)), found)

    def test_wrong_texts(self):
        for text in ("", " ", "run", "run ", "pump", "run nothing", "pump nothing", "nothing > run saw", "run saw > nothing",
                     "run saw > ", " > run saw", "run saw >run saw", "run saw > > run saw", "run saw>run saw", "saw",
                     "Run saw", "walk saw", "run  saw", " run saw", "run saw ", "run cut", "run saw; ", "run 0 x (saw)",
                     "run 01 x (saw)", f"run {10 ** 30 + 1} x (saw)", "run 2 x (nothing)", "run saw\n", "run saw > pump",
                     "run saw; run saw", "nothing ", "run run saw", "run saw by nothing", "run wood", "runsaw"):
            with self.assertRaises(BadText) as caught:
                read_plan(SHOP, text)
            self.assertEqual(caught.exception.line, 1)

    def test_the_deepest_runs(self):
        text = "saw"
        for _ in range(29):
            text = f"2 x ({text})"
        self.assertTrue(is_plan(SHOP, read_plan(SHOP, f"run saw > pump {text}")))
        with self.assertRaises(BadText):
            read_plan(SHOP, f"run saw > pump 2 x ({text})")


class VerdictTextTests(unittest.TestCase):
    def test_example(self):
        run = (("do", 0),)
        value = (*SALE_VERDICT[:2], (("most", 5, ()), ("most", 2, (("rep", 2, run),))))
        self.assertEqual(print_verdict(SALE, value), TEXT)
        self.assertEqual(read_verdict(SALE, TEXT), value)
        self.assertIs(check_text(SALE, (5, 0), TEXT), True)
        other = TEXT.replace("2 x (sell)", "sell; sell")
        self.assertIs(check_text(SALE, (5, 0), other), True)
        self.assertEqual(print_verdict(SALE, read_verdict(SALE, other)), other)

    def test_right_verdicts(self):
        dice = Random(422)
        worlds = small_worlds(423, 150)
        worlds.extend((book, (3,) * len(book[0])) for book in (SHOP, MINT, BARE))
        for top in (3, 1000):
            worlds.append((losing_book(dice, 8, top), tuple(dice.randint(0, top) for _ in range(6))))
        for book, stock in worlds:
            found = verdict(book, stock)
            text = print_verdict(book, found)
            self.assertEqual(text, print_by_hand(book, found))
            self.assertEqual(read_verdict(book, text), found)
            self.assertIs(check_text(book, stock, text), True)

    def test_it_is_not_looked_at_whether_a_verdict_is_right(self):
        dice = Random(424)
        for width in range(1, 7):
            for many in (0, 1, 8):
                book = some_book(dice, width, many)
                for _ in range(5):
                    value = some_verdict(dice, book)
                    text = print_verdict(book, value)
                    self.assertEqual(text, print_by_hand(book, value))
                    self.assertEqual(read_verdict(book, text), value)
                    stock = some_entries(dice, width, 5)
                    self.assertIs(check_text(book, stock, text), is_verdict(book, stock, value))

    def test_books_without_moves(self):
        text = "prices 1\nloop\ntop 7 a by nothing\nmost a 7 by nothing"
        self.assertEqual(print_verdict(BARE, read_verdict(BARE, text)), text)
        self.assertIs(check_text(BARE, (7,), text), True)
        for other in ("prices 1\nloop \ntop 7 a by nothing\nmost a 7 by nothing", text.replace("loop", "loop 0")):
            self.is_wrong_in(2, other, BARE)

    def test_no_tops(self):
        text = "prices 1 2\nloop 0\nmost wood 5 by nothing\nmost gold 2 by sell; sell"
        self.assertEqual(read_verdict(SALE, text)[1], ())
        self.assertIs(check_text(SALE, (5, 0), text), False)

    def test_great_numbers(self):
        self.is_right(with_line(1, f"prices {10 ** 40} 2"))
        self.is_wrong_in(1, with_line(1, f"prices {10 ** 40 + 1} 2"))
        self.is_right(with_line(2, f"loop {10 ** 40}"))
        self.is_wrong_in(2, with_line(2, f"loop {10 ** 40 + 1}"))
        self.is_right(with_line(3, f"top {10 ** 30} wood by nothing"))
        self.is_wrong_in(3, with_line(3, f"top {10 ** 30 + 1} wood by nothing"))
        self.is_right(with_line(6, f"most wood {10 ** 40} by nothing"))
        self.is_wrong_in(6, with_line(6, f"most wood {10 ** 40 + 1} by nothing"))
        self.is_right(with_line(7, f"most gold 2 by {10 ** 30} x (sell)"))
        self.is_wrong_in(7, with_line(7, f"most gold 2 by {10 ** 30 + 1} x (sell)"))
        self.is_wrong_in(4, with_line(4, f"top 3 wood + 1 gold by run {10 ** 30 + 1} x (sell)"))
        book = read_book("kinds a\nm: 1 a -> 1 a")
        stock = (10 ** 5000,)
        lines = print_verdict(book, verdict(book, stock)).split("\n")
        self.assertEqual(lines[2], f"top {print_number(10 ** 5000)} a by nothing")

    def is_right(self, text, book=SALE):
        self.assertEqual(print_verdict(book, read_verdict(book, text)), text)

    def is_wrong_in(self, number, text, book=SALE):
        with self.assertRaises(BadText) as caught:
            read_verdict(book, text)
        self.assertEqual(caught.exception.line, number, text)
        self.assertIs(check_text(book, (5,) + (0,) * (len(book[0]) - 1), text), False)

    def test_lines_left_out(self):
        self.assertEqual(len(LINES), 7)
        for number, wrong in ((1, 1), (2, 2), (6, 6), (7, 7)):
            self.is_wrong_in(wrong, "\n".join([*LINES[:number - 1], *LINES[number:]]))
        for number in (3, 4, 5):
            # One pair of the report less: that is read, but not right.
            text = "\n".join([*LINES[:number - 1], *LINES[number:]])
            self.is_right(text)
            self.assertIs(check_text(SALE, (5, 0), text), False)
        for many in range(7):
            self.is_wrong_in(many + 1, "\n".join(LINES[:many]))

    def test_lines_twice(self):
        for number, wrong in ((1, 2), (2, 3), (6, 7), (7, 8)):
            self.is_wrong_in(wrong, "\n".join([*LINES[:number], *LINES[number - 1:]]))
        for number in (3, 4, 5):
            text = "\n".join([*LINES[:number], *LINES[number - 1:]])
            self.is_right(text)
            self.assertIs(check_text(SALE, (5, 0), text), False)

    def test_lines_exchanged(self):
        for number, wrong in ((1, 1), (2, 2), (5, 6), (6, 6)):
            lines = [*LINES[:number - 1], LINES[number], LINES[number - 1], *LINES[number + 1:]]
            self.is_wrong_in(wrong, "\n".join(lines))
        for number in (3, 4):
            text = "\n".join([*LINES[:number - 1], LINES[number], LINES[number - 1], *LINES[number + 1:]])
            self.is_right(text)
            self.assertIs(check_text(SALE, (5, 0), text), False)

    def test_further_lines(self):
        self.is_wrong_in(8, TEXT + "\n")
        self.is_wrong_in(8, TEXT + "\nmost tin 3 by nothing")
        self.is_wrong_in(8, TEXT + "\n\n")
        self.is_wrong_in(1, "\n" + TEXT)
        self.is_wrong_in(3, with_line(2, "loop 0\n"))
        self.is_wrong_in(1, "")
        self.is_wrong_in(1, "\n")

    def test_the_first_wrong_line(self):
        for number in range(1, 8):
            for other in range(number, 8):
                lines = list(LINES)
                lines[number - 1] = lines[number - 1] + "?"
                lines[other - 1] = lines[other - 1] + "!"
                self.is_wrong_in(number, "\n".join(lines))

    def test_lines_spoilt(self):
        cases = {
            1: ("prices 1", "prices 1 2 0", "prices 1 2 ", "prices  1 2", "prices 1  2", "price 1 2", "Prices 1 2",
                "prices 01 2", "prices -1 2", "prices 1 x", "prices", "prices 1 endless", " prices 1 2", "loop 1 2"),
            2: ("loop", "loop ", "loop 0 0", "loop 00", "loop x", "loop  0", "prices 0", "loop -1", "loop 0 "),
            3: ("top", "top ", "top 5 wood", "top 5 wood by", "top 5 wood by ", "top by nothing", "top  by nothing",
                "top 0 wood by nothing", "top 05 wood by nothing", "top 5 tin by nothing", "top 5 wood by nothing ",
                "top 5 wood by  nothing", "top 5 wood  by nothing", "top  5 wood by nothing", "top 5 wood by run nothing",
                "top 5 wood by sell", "top 5 wood by run", "top 5 wood by nothing by nothing", "top -1 wood by nothing",
                "Top 5 wood by nothing", "top 5 wood by Nothing", "top 5..6 wood by nothing", "tops 5 wood by nothing",
                "top nothing + 5 wood by nothing", "top 5 wood + 5 wood by nothing", "top 5 wood by pump nothing"),
            4: ("top 1 gold + 3 wood by run sell", "top 3 wood+1 gold by run sell", "top 3 wood + 1 gold by run  sell",
                "top 3 wood + 1 gold by walk sell", "top 3 wood + 1 gold by run sell;", "top 3 wood + 1 gold by run saw",
                "top 3 wood + 1 gold by run sell >", "top 3 wood + 1 gold by run sell > ", "top 3 wood + 1 gold run sell",
                "top 3 wood + 1 gold by run sell > nothing", "top 3 wood + by run sell", ""),
            6: ("most wood 5", "most wood 5 by", "most wood 5 by ", "most wood by nothing", "most 5 by nothing", "most wood",
                "most gold 5 by nothing", "most wood 05 by nothing", "most wood -1 by nothing", "most  wood 5 by nothing",
                "most wood  5 by nothing", "most wood 5  by nothing", "most wood 5 by  nothing", "most wood 5 by run sell",
                "most wood 5 5 by nothing", "Most wood 5 by nothing", "most wood endless by nothing", "most tin 5 by nothing",
                "endless wood 5 by nothing", "endless wood", "endless by nothing", "endless gold by nothing", "",
                "endless wood by sell", "endless wood by ", "endless  wood by nothing", "most wood 5 by nothing "),
            7: ("most gold 2 by 2 x (sell) ", "most gold 2 by 2 x sell", "most gold 2 by 0 x (sell)", "most wood 2 by nothing",
                "most gold 2 by 02 x (sell)", "most gold 2 by sell;sell", "most gold 2 by 2 x (sell", "endless gold by sell",
                "most gold 2 by saw", "most gold 2 by nothing; sell", "most gold 2 by", "most gold by sell; sell"),
        }
        for number, lines in cases.items():
            for line in lines:
                self.is_wrong_in(number, with_line(number, line))

    def test_a_top_behind_the_answers(self):
        lines = [*LINES[:2], *LINES[5:6], LINES[2], *LINES[6:]]
        self.is_wrong_in(4, "\n".join(lines))
        self.is_wrong_in(8, "\n".join([*LINES, LINES[2]]))

    def test_each_text_that_is_read_is_the_text_of_what_it_gives(self):
        dice = Random(425)
        read = 0
        for _ in range(6000):
            at = dice.randrange(len(TEXT))
            text = TEXT[:at] + dice.choice(("", dice.choice(SIGNS), dice.choice("0123456789"))) + TEXT[at + dice.randint(0, 1):]
            try:
                value = read_verdict(SALE, text)
            except BadText as error:
                self.assertIs(type(error.line), int)
                self.assertIs(check_text(SALE, (5, 0), text), False)
                # All lines above the wrong one are those of the text, or are right in another way.
                self.assertGreaterEqual(error.line, 1 + TEXT[:at].count("\n"))
                continue
            self.assertEqual(print_verdict(SALE, value), text)
            self.assertIs(check_text(SALE, (5, 0), text), is_verdict(SALE, (5, 0), value))
            read += 1
        self.assertGreater(read, 300)


class ByTests(unittest.TestCase):
    """Books with a kind or move called `by`: [1.1] allows the name, but part 11 says that it has none of them."""

    def is_read_back(self, book, value):
        text = print_verdict(book, value)
        self.assertEqual(text, print_by_hand(book, value))
        self.assertEqual(read_verdict(book, text), value)
        return text

    def is_wrong_in(self, number, text, book):
        with self.assertRaises(BadText) as caught:
            read_verdict(book, text)
        self.assertEqual(caught.exception.line, number, text)
        self.assertIs(check_text(book, (3,) * len(book[0]), text), False)

    def test_a_kind_without_moves(self):
        text = "prices 1\nloop\ntop nothing by nothing\nmost by 0 by nothing"
        value = (((1,), ()), (((0,), ()),), (("most", 0, ()),))
        self.assertEqual(self.is_read_back((("by",), ()), value), text)
        self.assertIs(check_text((("by",), ()), (0,), text), True)
        self.assertIs(check_text((("by",), ()), (1,), text), False)

    def test_a_kind_right_before_the_word(self):
        book = (("aa", "by"), ())
        text = "prices 1 1\nloop\ntop 1 aa + 2 by by nothing\nmost aa 1 by nothing\nmost by 2 by nothing"
        value = (((1, 1), ()), (((1, 2), ()),), (("most", 1, ()), ("most", 2, ())))
        self.assertEqual(self.is_read_back(book, value), text)
        self.assertIs(check_text(book, (1, 2), text), True)

    def test_a_kind_without_end(self):
        book = (("by",), (("mk", (0,), (1,), (1,)),))
        pump = (("pump", (("do", 0),)),)
        text = "prices 0\nloop 1\ntop endless by by pump mk\nendless by by pump mk"
        self.assertEqual(self.is_read_back(book, (((0,), (1,)), (((-1,), pump),), (("end", pump),))), text)
        self.assertIs(check_text(book, (0,), text), True)

    def test_a_kind_further_before_the_word(self):
        book = (("by", "aa"), (("by2", (1, 0), (0, 2), (0, 2)),))
        text = ("prices 2 1\nloop 0\ntop 1 by + 3 aa by nothing\ntop 5 aa by run by2\n"
                "most by 1 by nothing\nmost aa 5 by by2")
        self.assertEqual(print_verdict(book, read_verdict(book, text)), text)
        self.assertIs(check_text(book, (1, 3), text), True)

    def test_a_move(self):
        book = (("aa", "bb"), (("by", (1, 0), (0, 2), (0, 2)),))
        text = ("prices 2 1\nloop 0\ntop 2 aa by nothing\ntop 1 aa + 2 bb by run by\ntop 4 bb by run by > run by\n"
                "most aa 2 by nothing\nmost bb 4 by by; by")
        self.assertEqual(print_verdict(book, read_verdict(book, text)), text)
        self.assertIs(check_text(book, (2, 0), text), True)
        other = text.replace("by by; by", "by 2 x (by)")
        self.assertIs(check_text(book, (2, 0), other), True)

    def test_right_verdicts(self):
        for book, stock in small_worlds(428, 80):
            for at in range(len(book[0]) + len(book[1])):
                other = named_by(book, at)
                found = verdict(other, stock)
                self.assertIs(check_text(other, stock, self.is_read_back(other, found)), True)

    def test_what_has_the_form_of_a_verdict(self):
        dice = Random(433)
        for width in range(1, 7):
            for many in (0, 1, 8):
                for at in range(width + many):
                    for _ in range(4):
                        book = named_by(some_book(dice, width, many), at)
                        self.is_read_back(book, some_verdict(dice, book))

    def test_wrong_lines(self):
        book = (("aa", "by"), (("mk", (1, 0), (0, 1), (0, 1)),))
        lines = ["prices 1 1", "loop 0", "top 3 aa + 3 by by nothing", "top 2 aa + 4 by by run mk",
                 "most aa 3 by nothing", "most by 6 by 3 x (mk)"]
        read_verdict(book, "\n".join(lines))
        cases = {
            3: ("top 3 by", "top 3 by by", "top 3 by by ", "top by nothing", "top by by nothing", "top  by by nothing",
                "top 3 by nothing", "top 3 by by by nothing", "top 3 by by by by nothing", "top 3 by by nothing by nothing",
                "top 3 by  by nothing", "top 3 by by  nothing", "top 3 by + 3 aa by nothing", "top 3 by + 3 by by nothing",
                "top 0 by by nothing", "top nothing by by nothing", "top by 3 by nothing", "top 3 aa by by nothing",
                "top 3 aa + by by nothing", "top 3 by + by nothing", "top endless by", "top endless by nothing", "top by",
                "top 3 by by run by", "top 3 by by run mk > run by", "top 3 by by run mk by run mk", "top 3 by by mk"),
            5: ("most by 3 by nothing", "most by by nothing", "most aa by nothing", "most aa 3 by by nothing", "most aa by 3",
                "most aa 3 by by", "most aa 3 by nothing by nothing", "endless by by nothing", "endless aa by by nothing"),
            6: ("most by 6", "most by 6 by", "most by 6 by ", "most by by nothing", "most by by 6 by nothing",
                "most 6 by nothing", "most by 6 by by nothing", "most by 6  by nothing", "most by  6 by nothing",
                "most by 06 by nothing", "most by 6 by by", "most by 6 by mk; by", "most by 6 by nothing by nothing", "most by 6 6 by nothing",
                "endless by", "endless by by", "endless by by ", "endless by nothing", "endless by by by nothing",
                "endless by 6 by nothing", "endless by by mk", "endless by by run by", "by by nothing", "by", " by "),
        }
        for number, spoilt in cases.items():
            for line in spoilt:
                self.is_wrong_in(number, "\n".join([*lines[:number - 1], line, *lines[number:]]), book)

    def test_wrong_lines_with_a_move(self):
        book = (("aa",), (("by", (1,), (0,), (0,)),))
        lines = ["prices 1", "loop 0", "top 3 aa by nothing", "most aa 3 by nothing"]
        read_verdict(book, "\n".join(lines))
        for line in ("top 3 by nothing", "top 3 aa by by", "top 3 aa by by nothing", "top 3 aa by run by by nothing",
                     "top 3 aa by run by > by", "top 3 aa by run by by run by", "top 3 by by nothing"):
            self.is_wrong_in(3, "\n".join([*lines[:2], line, *lines[3:]]), book)
        for line in ("most aa 3 by by by nothing", "most by 3 by nothing", "most aa by by", "most aa 3 by by by",
                     "most aa 3 by"):
            self.is_wrong_in(4, "\n".join([*lines[:3], line]), book)

    def test_each_text_that_is_read_is_the_text_of_what_it_gives(self):
        dice = Random(434)
        words = ("by", "by", "top", "most", "endless", "nothing", "run", "pump", "mk", "aa", "0", "2", "+", ">", "mk;", "")
        for book in ((("aa", "by"), (("mk", (1, 0), (0, 1), (0, 1)),)), (("by",), (("mk", (0,), (1,), (1,)),)),
                     (("aa",), (("by", (1,), (0,), (0,)), ("mk", (1,), (0,), (0,))))):
            read = 0
            for _ in range(3000):
                lines = [line.split(" ") for line in print_verdict(book, some_verdict(dice, book)).split("\n")]
                line = lines[dice.randrange(2, len(lines))]
                at = dice.randrange(len(line))
                line[at:at + dice.randint(0, 1)] = [dice.choice(words) for _ in range(dice.randint(0, 2))]
                text = "\n".join(" ".join(line) for line in lines)
                try:
                    value = read_verdict(book, text)
                except BadText:
                    continue
                self.assertEqual(print_verdict(book, value), text)
                read += 1
            self.assertGreater(read, 300)


class CheckTextTests(unittest.TestCase):
    def test_other_stocks(self):
        for stock in ((4, 0), (6, 0), (5, 1), (0, 0), (3, 1), (10 ** 40, 0)):
            self.assertIs(check_text(SALE, stock, TEXT), False)
        for book, stock in small_worlds(426, 60):
            text = print_verdict(book, verdict(book, stock))
            for k in range(len(stock)):
                other = stock[:k] + (stock[k] + 1,) + stock[k + 1:]
                self.assertIs(check_text(book, other, text), is_verdict(book, other, read_verdict(book, text)))

    def test_wrong_verdicts(self):
        for number, line in ((1, "prices 1 3"), (1, "prices 0 2"), (2, "loop 1"), (3, "top 6 wood by nothing"),
                             (3, "top 5 wood by run sell"), (3, "top endless wood by nothing"),
                             (4, "top 3 wood + 1 gold by pump sell"), (4, "top 3 wood + 1 gold by run 2 x (sell)"),
                             (5, "top 1 wood + 2 gold by run sell > run 2 x (sell)"), (6, "most wood 4 by nothing"),
                             (6, "most wood 5 by sell"), (6, "endless wood by nothing"), (7, "most gold 2 by sell"),
                             (7, "most gold 1 by sell"), (7, "most gold 2 by 3 x (sell)"), (7, "endless gold by run sell")):
            text = with_line(number, line)
            self.assertEqual(print_verdict(SALE, read_verdict(SALE, text)), text)
            self.assertIs(check_text(SALE, (5, 0), text), False)

    def test_other_right_texts(self):
        for number, line in ((1, "prices 7 14"), (1, "prices 3 1"), (3, "top 5 wood by nothing"),
                             (5, "top 1 wood + 2 gold by run 2 x (sell)"), (7, "most gold 2 by 1 x (sell; sell)")):
            self.assertIs(check_text(SALE, (5, 0), with_line(number, line)), True)

    def test_without_end(self):
        text = ("prices 0 0\nloop 6 1\ntop endless wood + endless gold by pump saw > pump sell\n"
                "endless wood by pump saw\nendless gold by pump saw > pump sell")
        self.assertIs(check_text(SHOP, (2, 0), text), True)
        self.assertIs(check_text(SHOP, (1, 0), text), False)
        self.assertIs(check_text(SHOP, (2, 0), text.replace("loop 6 1", "loop 5 1")), False)
        self.assertIs(check_text(SHOP, (2, 0), text.replace("gold by pump saw > pump sell", "gold by pump saw")), False)

    def test_any_texts(self):
        dice = Random(427)
        words = ["prices", "loop", "top", "by", "most", "endless", "nothing", "run", "pump", "sell", "wood", "gold", "x",
                 "0", "1", "2", "5", "+", ">", ";", "(", ")", "2 x (sell)", "5 wood", str(10 ** 41), "\n", "\n", "\n"]
        for _ in range(3000):
            text = "".join(dice.choice(SIGNS) for _ in range(dice.randint(0, 60)))
            self.assertIs(check_text(SALE, (5, 0), text), False)
            text = " ".join(dice.choice(words) for _ in range(dice.randint(0, 40)))
            self.assertIs(check_text(SALE, (5, 0), text), False)
        for text in ("", "\n" * 1000, "(" * 10000, "9" * 10000, "prices " + "9" * 10000, "2 x (" * 5000,
                     with_line(7, "most gold 2 by " + "2 x (" * 3000), with_line(7, "most gold 2 by " + "(" * 3000),
                     with_line(3, "top " + "9" * 5000 + " wood by nothing"), "top " * 3000):
            self.assertIs(check_text(SALE, (5, 0), text), False)


if __name__ == "__main__":
    unittest.main()
