"""Tests of texts that are wrong (1.8), with the right text next to each wrong one."""

import re
import unittest
from random import Random

from mintlaw.books import is_book, is_extended, is_run, is_stock
from mintlaw.errors import BadText
from mintlaw.texts import (
    print_book, print_run, print_stock, read_book, read_extended, read_run, read_stock,
)
from tests.samples import BAD_NAMES, FULL, SHOP, right_books, right_extended, right_runs, some_names

NUMBER = "[1-9][0-9]{0,29}|10{30}"
SIGNS = "0129ax +;:()>-.\nkwod"


class Wrong(unittest.TestCase):
    def wrong(self, line, read, *arguments):
        with self.assertRaises(BadText, msg=arguments) as caught:
            read(*arguments)
        self.assertEqual(caught.exception.line, line, arguments)


class WrongStockTests(Wrong):
    def refused(self, text):
        self.wrong(1, read_stock, SHOP, text)
        self.wrong(1, read_extended, SHOP, text)

    def test_pairs_of_right_and_wrong_texts(self):
        pairs = (
            ("5 wood", ("5  wood", " 5 wood", "5 wood ", "5wood", "5", "wood", "wood 5", "5 wood\n", "\n5 wood",
                        "05 wood", "+5 wood", "-5 wood", "5. wood", "5..5 wood", "5..6 wood", "0..5 wood", "5 woo",
                        "5 Wood", "5 wood gold", "5 5 wood", "5 wood;", "5 x (wood)", "5 wood +", "5 wood + ",
                        "+ 5 wood", " + 5 wood", "5 iron", "five wood", "5e1 wood", "5_0 wood", "0x5 wood")),
            ("1 wood + 2 gold", ("1 wood  + 2 gold", "1 wood +  2 gold", "1 wood+ 2 gold", "1 wood +2 gold",
                                 "1 wood, 2 gold", "1 wood 2 gold", "1 wood + 2 wood", "1 wood + + 2 gold",
                                 "1 wood - 2 gold", "0 wood + 2 gold", "1 wood + 0 gold", "1 wood + 02 gold",
                                 "1 wood + nothing", "1 wood + 2 gold + 1 wood", "1 wood\n + 2 gold",
                                 "1 gold + 2 gold", "1 wood + 1 wood")),
            ("nothing", ("", " ", "nothing ", " nothing", "Nothing", "nothin", "nothing + 1 wood", "nothing\n",
                         "nothing + nothing", "0", "0 wood", "0 wood + 0 gold", "00 wood", "nothing wood")),
            ("1" + "0" * 30 + " wood", ("1" + "0" * 29 + "1 wood", "1" + "0" * 31 + " wood", "9" * 5000 + " wood",
                                        "01" + "0" * 29 + " wood", "0" * 5000 + " wood", "0" * 5000 + "1 wood")),
        )
        for right, wrong_ones in pairs:
            self.assertTrue(is_stock(SHOP, read_stock(SHOP, right)))
            self.assertTrue(is_stock(SHOP, read_extended(SHOP, right)))
            for text in wrong_ones:
                self.refused(text)

    def test_endless_is_taken_by_read_extended_alone(self):
        for text, row in (("endless wood", (-1, 0)), ("2 wood + endless gold", (2, -1)),
                          ("endless gold + endless wood", (-1, -1))):
            self.assertEqual(read_extended(SHOP, text), row)
            self.wrong(1, read_stock, SHOP, text)

    def test_wrong_endless(self):
        for text in ("endless", "endless  wood", "endless wood + 1 wood", "endless wood + endless wood", "Endless wood",
                     "wood endless", "-1 wood", "1..endless wood", "endless..1 wood", "1 endless wood",
                     "endless 1 wood", "endless iron", "endless wood gold"):
            self.refused(text)

    def test_digits_beyond_ascii(self):
        for word in ("\u0665", "\u00b2", "1\u0660"):
            self.refused(word + " wood")


class WrongRunTests(Wrong):
    def test_pairs_of_right_and_wrong_texts(self):
        pairs = (
            ("saw", ("sa", "saws", "Saw", " saw", "saw ", "saw\n", "(saw)", "saw;", "saw; ", "; saw", "wood", "0", "x",
                     "iron", "saw()", "")),
            ("saw; sell", ("saw;sell", "saw ; sell", "saw;  sell", "saw sell", "saw, sell", "saw; ; sell", "saw;; sell",
                           "saw\nsell", "saw; sells", "saw; nothing", "nothing; sell", "saw; sell)", "saw);( sell")),
            ("2 x (saw)", ("2  x (saw)", "2 x  (saw)", "2 x(saw)", "2x (saw)", "2 x ( saw)", "2 x (saw )", "2 x (saw",
                           "2 x (saw))", "2 x saw", "2 x (saw;)", "2 x (saw; )", "2 x ()", "2 x (nothing)", "2 x ",
                           "0 x (saw)", "02 x (saw)", "-2 x (saw)", "+2 x (saw)", "2 X (saw)", "2 * (saw)", "x (saw)",
                           "2 x", "2", "2 saw", "2 x ((saw))", "two x (saw)", "endless x (saw)", "1..2 x (saw)",
                           "saw x (saw)", "2 x (saw)(saw)", "2 x (saw) saw", "2 x (saw);", "2 x [saw]", " 2 x (saw)")),
            ("2 x (3 x (saw); sell)", ("2 x (3 x (saw; sell)", "2 x (3 x saw); sell)", "2 x (3 x (saw)); sell)",
                                       "2 x (3 x (); sell)", "2 x (3 x (nothing); sell)", "2 x (0 x (saw); sell)",
                                       "2 x (3 x (saw);sell)", "2 x (3 x (saw) sell)", "2 x (3 x (saw); sel)")),
            ("1" + "0" * 30 + " x (saw)", ("1" + "0" * 29 + "1 x (saw)", "1" + "0" * 31 + " x (saw)",
                                           "9" * 5000 + " x (saw)", "0" * 5000 + " x (saw)")),
            ("nothing", ("nothing ", "nothin", "nothing; nothing", "Nothing", "(nothing)", "1 x (nothing)")),
        )
        for right, wrong_ones in pairs:
            self.assertTrue(is_run(SHOP, read_run(SHOP, right)))
            for text in wrong_ones:
                self.wrong(1, read_run, SHOP, text)

    def test_depths(self):
        for depth in (*range(1, 40), 1000, 100000):
            text = "1 x (" * (depth - 1) + "saw" + ")" * (depth - 1)
            for whole in (text, f"sell; {text}", f"{text}; sell"):
                if depth <= 30:
                    self.assertTrue(is_run(SHOP, read_run(SHOP, whole)))
                else:
                    self.wrong(1, read_run, SHOP, whole)

    def test_parentheses_that_do_not_close(self):
        for depth in (2, 30, 31, 5000):
            for text in ("1 x (" * (depth - 1) + "saw" + ")" * (depth - 2), "1 x (" * depth, "saw" + ")" * depth):
                self.wrong(1, read_run, SHOP, text)

    def test_a_book_without_moves(self):
        book = (("wood",), ())
        self.assertEqual(read_run(book, "nothing"), ())
        for text in ("saw", "wood", "", "1 x (nothing)"):
            self.wrong(1, read_run, book, text)


class WrongBookTests(Wrong):
    def test_the_line_of_the_kinds(self):
        rest = "\nm: nothing -> nothing"
        for line in ("kinds a", "kinds a b c d e f"):
            self.assertTrue(is_book(read_book(line + rest)))
        for line in ("", "kinds", "kinds ", "kind a", "Kinds a", "kinds  a", "kinds a ", " kinds a", "kinds a  b",
                     "kinds a, b", "kinds: a", "a", "kinds a a", "kinds a b c d e f g", "kinds a b c d e a",
                     "kinds kinds", "kinds a nothing", "kinds x", "kinds endless", "m: nothing -> nothing"):
            self.wrong(1, read_book, line)
            self.wrong(1, read_book, line + rest)
            self.wrong(1, read_book, line + "\nwrong\n")
        for name in BAD_NAMES:
            if " " not in name and "\n" not in name:
                self.wrong(1, read_book, f"kinds {name}{rest}")

    def test_pairs_of_right_and_wrong_lines(self):
        pairs = (
            ("m: nothing -> nothing", ("", " ", "m", "m:", "m: ", "m: nothing", "m: nothing ->", "m: nothing -> ",
                                       "m:nothing -> nothing", "m : nothing -> nothing", "m:  nothing -> nothing",
                                       "m: nothing  -> nothing", "m: nothing ->  nothing", "m: nothing - > nothing",
                                       "m: nothing -> nothing ", " m: nothing -> nothing", "m: nothing -> nothing -> ",
                                       "m: nothing -> nothing -> nothing", "m: m: nothing -> nothing", "m: -> nothing",
                                       "m: nothing->nothing", "m; nothing -> nothing", "m nothing -> nothing",
                                       ": nothing -> nothing", "m: nothing => nothing", "m:  -> ",
                                       "m: nothing + nothing -> nothing", "m: nothing -> nothing + 1 a",
                                       "a: nothing -> nothing", "b: nothing -> nothing", "old: nothing -> nothing")),
            ("m: 1 a -> 2 b", ("m: 1  a -> 2 b", "m: 0 a -> 2 b", "m: 1 a -> 0 b", "m: 01 a -> 2 b", "m: 1 a -> 02 b",
                               "m: 1 c -> 2 b", "m: 1 a -> 2 c", "m: 1 a -> 2 m", "m: endless a -> 2 b",
                               "m: 1 a -> endless b", "m: 1..2 a -> 2 b", "m: 0..1 a -> 2 b", "m: -1 a -> 2 b",
                               "m: 1 a -> -2 b", "m: 1 a - 2 b", "m: 2 b <- 1 a", "m: 1 a + 1 a -> 2 b",
                               "m: 1 a -> 2 b + 1 b", "m: 1 a + -> 2 b", "m: 1 a -> 2 b +", "m: a -> b")),
            ("m: nothing -> 1..2 a", ("m: nothing -> 1..1 a", "m: nothing -> 2..1 a", "m: nothing -> 0..0 a",
                                      "m: nothing -> 01..2 a", "m: nothing -> 1..02 a", "m: nothing -> 1.2 a",
                                      "m: nothing -> 1...2 a", "m: nothing -> 1 .. 2 a", "m: nothing -> 1..2  a",
                                      "m: nothing -> ..2 a", "m: nothing -> 1.. a", "m: nothing -> 1..2..3 a",
                                      "m: nothing -> 1..2", "m: nothing -> 00..2 a", "m: nothing -> -1..2 a",
                                      "m: nothing -> 1-2 a", "m: nothing -> 1..2 a + 3 a", "m: nothing -> 1..endless a",
                                      "m: nothing -> 1..1001 a", "m: 1..2 a -> nothing", "m: nothing -> 1..2 c")),
            ("m: 1000 a -> 1000 a + 999..1000 b", ("m: 1001 a -> nothing", "m: nothing -> 1001 a",
                                                   "m: nothing -> 999..1001 b", "m: nothing -> 1001..1002 b",
                                                   "m: " + "9" * 5000 + " a -> nothing",
                                                   "m: nothing -> " + "9" * 5000 + " a",
                                                   "m: nothing -> 0.." + "9" * 5000 + " a")),
        )
        for right, wrong_ones in pairs:
            self.check_line(right, wrong_ones)

    def test_names_of_moves(self):
        names = [name for name in BAD_NAMES if "\n" not in name]
        self.check_line("saw: 1 a -> 1 b", [f"{name}: 1 a -> 1 b" for name in names])

    def check_line(self, right, wrong_ones):
        top = ["kinds a b", "old: 1 a -> 1 b"]
        for below in ([], ["zz: 1 b -> 1 a"], ["", "wrong"]):
            if "wrong" not in below:
                self.assertTrue(is_book(read_book("\n".join([*top, right, *below]))))
            for line in wrong_ones:
                self.wrong(3, read_book, "\n".join([*top, line, *below]))

    def test_each_line_of_a_book(self):
        for book in right_books():
            lines = print_book(book).split("\n")
            for at, line in enumerate(lines):
                for spoilt in ("", line + " ", " " + line, line.replace(" ", "  ", 1), line + " + 1 iron",
                               line.upper(), line[:-1] + "?", "wrong"):
                    text = "\n".join(lines[:at] + [spoilt] + lines[at + 1:])
                    self.wrong(at + 1, read_book, text)
                    self.wrong(at + 1, read_book, text + "\nwrong\n\n")

    def test_a_name_that_a_line_above_has(self):
        for book in right_books():
            lines = print_book(book).split("\n")
            for at in range(1, len(lines)):
                rest = lines[at].partition(":")[2]
                for name in (*book[0], *[move[0] for move in book[1][:at - 1]]):
                    text = "\n".join(lines[:at] + [f"{name}:{rest}"] + lines[at + 1:])
                    self.wrong(at + 1, read_book, text)

    def test_a_line_too_many(self):
        for book in right_books():
            text = print_book(book)
            behind = len(book[1]) + 2
            self.wrong(behind, read_book, text + "\n")
            self.wrong(behind, read_book, text + "\n\n")
            self.wrong(behind, read_book, text + "\nkinds a")
            self.wrong(1, read_book, "\n" + text)

    def test_more_than_eight_moves(self):
        lines = [f"m{k}: nothing -> 1 a" for k in range(20)]
        for many in range(20):
            text = "\n".join(["kinds a", *lines[:many]])
            if many <= 8:
                self.assertEqual(len(read_book(text)[1]), many)
            else:
                self.wrong(10, read_book, text)
        spoilt = "\n".join(["kinds a", *lines[:3], "wrong", *lines[4:]])
        self.wrong(5, read_book, spoilt)


def same_items(text, other):
    """Tell whether two lists of items are the same but for their order."""
    return sorted(text.split(" + ")) == sorted(other.split(" + "))


def same_book(text, other):
    """Tell whether two texts of books are the same but for the order of items."""
    lines = zip(re.split("\n| -> |: ", text), re.split("\n| -> |: ", other))
    return len(text) == len(other) and all(same_items(one, two) for one, two in lines)


def is_stock_text(kinds, text, words=NUMBER):
    """Tell, in another way than the program, whether a text is that of a stock."""
    items = text.split(" + ")
    form = f"({words}) ({'|'.join(kinds)})"
    names = [item.split(" ")[-1] for item in items]
    return text == "nothing" or (all(re.fullmatch(form, item) for item in items) and len(set(names)) == len(names))


def is_run_text(moves, text):
    """Tell, in another way than the program, whether a text is that of a run."""
    step = "|".join(move[0] for move in moves) or "(?!)"
    inner = re.compile(rf"(?<![a-z0-9])(?:{NUMBER}) x \((?:{step}|@)(?:; (?:{step}|@))*\)")
    rounds = 0
    while inner.search(text):
        text = inner.sub("@", text)
        rounds += 1
    return rounds <= 29 and (text == "nothing" or bool(re.fullmatch(f"(?:{step}|@)(?:; (?:{step}|@))*", text)))


def spoilt_texts(dice, text, many):
    """Return so many texts that differ from a text at one or two places."""
    texts = []
    for _ in range(many):
        spoilt = text
        for _ in range(dice.randint(1, 2)):
            at = dice.randint(0, len(spoilt))
            behind = at + dice.choice((0, 0, 1, 1, 2))
            middle = dice.choice(("", dice.choice(SIGNS), spoilt[at:behind] * 2, spoilt[at:behind][::-1]))
            spoilt = spoilt[:at] + middle + spoilt[behind:]
        texts.append(spoilt)
    return texts


class SpoiltTests(Wrong):
    """Each text is read if it is right, and otherwise raises BadText and nothing else."""

    def test_stocks(self):
        dice = Random(21)
        for book in right_books()[::4]:
            for row in right_extended(book):
                for text in spoilt_texts(dice, print_stock(book, row), 30):
                    if is_stock_text(book[0], text, NUMBER + "|endless"):
                        read = read_extended(book, text)
                        self.assertTrue(is_extended(book, read))
                        self.assertTrue(same_items(print_stock(book, read), text))
                    else:
                        self.wrong(1, read_extended, book, text)
                    if is_stock_text(book[0], text):
                        self.assertEqual(read_stock(book, text), read_extended(book, text))
                    else:
                        self.wrong(1, read_stock, book, text)

    def test_runs(self):
        dice = Random(22)
        for book in right_books()[::4]:
            for run in right_runs(book):
                for text in spoilt_texts(dice, print_run(book, run), 40):
                    if is_run_text(book[1], text):
                        read = read_run(book, text)
                        self.assertTrue(is_run(book, read))
                        self.assertEqual(print_run(book, read), text)
                    else:
                        self.wrong(1, read_run, book, text)

    def test_books(self):
        dice = Random(23)
        read_ones = 0
        for book in right_books():
            for text in spoilt_texts(dice, print_book(book), 40):
                try:
                    read = read_book(text)
                except BadText as error:
                    self.check_first_wrong_line(text, error.line)
                    continue
                read_ones += 1
                self.assertTrue(is_book(read))
                self.assertTrue(same_book(print_book(read), text), text)
        self.assertGreater(read_ones, 50)

    def check_first_wrong_line(self, text, line):
        lines = text.split("\n")
        self.assertLessEqual(line, len(lines))
        if line > 1:
            above = "\n".join(lines[:line - 1])
            self.assertTrue(same_book(print_book(read_book(above)), above))
        self.wrong(line, read_book, "\n".join(lines[:line]))

    def test_names_of_other_books(self):
        dice = Random(24)
        for name in some_names(dice, 20):
            if name not in SHOP[0]:
                self.wrong(1, read_stock, SHOP, f"1 {name}")
            if name not in ("saw", "sell"):
                self.wrong(1, read_run, SHOP, name)
        self.wrong(1, read_run, SHOP, "wood")
        self.wrong(1, read_stock, SHOP, "1 saw")
        self.wrong(1, read_stock, FULL, "1 wood")


if __name__ == "__main__":
    unittest.main()
