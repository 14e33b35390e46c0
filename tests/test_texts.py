"""Tests of printing texts, and of reading what was printed (1.5 to 1.7, 1.9, and the order of items in 1.8)."""

import unittest
from itertools import permutations

from mintlaw.texts import (
    print_book, print_run, print_stock, read_book, read_extended, read_run, read_stock,
)
from tests.samples import (
    BARE, FULL, FULL_TEXT, SHOP, nested_run, right_books, right_extended, right_runs, right_stocks,
)

SHOP_TEXT = "kinds wood gold\nsaw: 2 wood -> 3 wood\nsell: 5 wood -> 1..2 gold"


class PrintStockTests(unittest.TestCase):
    def test_stocks(self):
        self.assertEqual(print_stock(SHOP, (0, 0)), "nothing")
        self.assertEqual(print_stock(SHOP, (5, 0)), "5 wood")
        self.assertEqual(print_stock(SHOP, (0, 1)), "1 gold")
        self.assertEqual(print_stock(SHOP, (10, 200)), "10 wood + 200 gold")
        self.assertEqual(print_stock(FULL, (1, 0, 3, 0, 0, 6)), "1 a + 3 cc + 6 f")

    def test_extended_stocks(self):
        self.assertEqual(print_stock(SHOP, (-1, 0)), "endless wood")
        self.assertEqual(print_stock(SHOP, (7, -1)), "7 wood + endless gold")
        self.assertEqual(print_stock(BARE, (-1,)), "endless a")
        self.assertEqual(print_stock(FULL, (-1, 0, -1, 0, 0, 10)), "endless a + endless cc + 10 f")

    def test_numbers_of_any_size(self):
        for size in (30, 511, 512, 513, 1024, 1025, 5000, 20000):
            self.assertEqual(print_stock(SHOP, (10 ** size, 0)), "1" + "0" * size + " wood")
            self.assertEqual(print_stock(SHOP, (0, 10 ** size - 1)), "9" * size + " gold")
            self.assertEqual(print_stock(SHOP, (0, 10 ** size + 5)), "1" + "0" * (size - 1) + "5 gold")


class PrintBookTests(unittest.TestCase):
    def test_books(self):
        self.assertEqual(print_book(BARE), "kinds a")
        self.assertEqual(print_book(SHOP), SHOP_TEXT)
        self.assertEqual(print_book(FULL), FULL_TEXT)
        self.assertEqual(print_book((("z", "b", "a"), ())), "kinds z b a")

    def test_what_moves_give(self):
        texts = {
            ((0, 0), (0, 0)): "nothing",
            ((0, 0), (1, 0)): "0..1 wood",
            ((1, 0), (1, 0)): "1 wood",
            ((0, 999), (0, 1000)): "999..1000 gold",
            ((1000, 0), (1000, 7)): "1000 wood + 0..7 gold",
            ((2, 3), (3, 3)): "2..3 wood + 3 gold",
        }
        for (least, most), give in texts.items():
            book = (("wood", "gold"), (("m", (0, 0), least, most),))
            self.assertEqual(print_book(book), "kinds wood gold\nm: nothing -> " + give)

    def test_what_moves_take(self):
        for take, text in (((0, 0), "nothing"), ((1, 0), "1 wood"), ((1000, 10), "1000 wood + 10 gold")):
            book = (("wood", "gold"), (("m", take, (0, 0), (0, 0)),))
            self.assertEqual(print_book(book), f"kinds wood gold\nm: {text} -> nothing")


class PrintRunTests(unittest.TestCase):
    def test_runs(self):
        saw, sell = ("do", 0), ("do", 1)
        texts = {
            (): "nothing",
            (saw,): "saw",
            (sell, saw, sell): "sell; saw; sell",
            (("rep", 1, (saw,)),): "1 x (saw)",
            (("rep", 7, (saw, saw)), sell): "7 x (saw; saw); sell",
            (("rep", 2, (("rep", 3, (saw,)), sell)), ("rep", 10, (sell,))): "2 x (3 x (saw); sell); 10 x (sell)",
            (("rep", 10 ** 30, (saw,)),): "1" + "0" * 30 + " x (saw)",
        }
        for run, text in texts.items():
            self.assertEqual(print_run(SHOP, run), text)
            self.assertEqual(read_run(SHOP, text), run)

    def test_deep_runs(self):
        self.assertEqual(print_run(SHOP, nested_run(3)), "2 x (1 x (saw))")
        inner = "".join(f"{level} x (" for level in range(29, 0, -1))
        self.assertEqual(print_run(SHOP, nested_run(30)), inner + "saw" + ")" * 29)

    def test_numbers_of_any_size(self):
        run = (("rep", 10 ** 5000 + 1, (("do", 0),)),)
        self.assertEqual(print_run(SHOP, run), "1" + "0" * 4999 + "1 x (saw)")

    def test_somewhat_deeper_runs_are_printed(self):
        self.assertTrue(print_run(SHOP, nested_run(40)).startswith("39 x (38 x ("))


class ReadAgainTests(unittest.TestCase):
    def test_books(self):
        for book in right_books():
            self.assertEqual(read_book(print_book(book)), book)

    def test_stocks(self):
        for book in right_books():
            for stock in right_stocks(book):
                self.assertEqual(read_stock(book, print_stock(book, stock)), stock)
                self.assertEqual(read_extended(book, print_stock(book, stock)), stock)

    def test_extended_stocks(self):
        for book in right_books():
            for row in right_extended(book):
                self.assertEqual(read_extended(book, print_stock(book, row)), row)

    def test_runs(self):
        for book in right_books():
            for run in right_runs(book):
                self.assertEqual(read_run(book, print_run(book, run)), run)

    def test_many_steps(self):
        run = (("do", 0), ("do", 1)) * 20000
        self.assertEqual(read_run(SHOP, print_run(SHOP, run)), run)

    def test_numbers_up_to_the_greatest_one(self):
        for number in (1, 9, 10, 10 ** 29, 10 ** 30 - 1, 10 ** 30):
            self.assertEqual(read_stock(SHOP, f"{number} gold"), (0, number))
            self.assertEqual(read_extended(SHOP, f"{number} gold"), (0, number))
            self.assertEqual(read_run(SHOP, f"{number} x (sell)"), (("rep", number, (("do", 1),)),))

    def test_the_example_of_the_document(self):
        book = read_book(SHOP_TEXT)
        self.assertEqual(book[1], (("saw", (2, 0), (3, 0), (3, 0)), ("sell", (5, 0), (0, 1), (0, 2))))
        run = read_run(book, "7 x (saw; saw); sell")
        self.assertEqual(run, (("rep", 7, (("do", 0), ("do", 0))), ("do", 1)))


class AnyOrderTests(unittest.TestCase):
    def test_items_of_stocks(self):
        for items in permutations(("1 a", "22 b2", "333 cc", "1000000 f")):
            text = " + ".join(items)
            self.assertEqual(read_stock(FULL, text), (1, 22, 333, 0, 0, 1000000))
            self.assertEqual(read_extended(FULL, text), (1, 22, 333, 0, 0, 1000000))

    def test_items_of_extended_stocks(self):
        for items in permutations(("1 a", "endless b2", "333 cc", "endless f")):
            self.assertEqual(read_extended(FULL, " + ".join(items)), (1, -1, 333, 0, 0, -1))

    def test_items_of_moves(self):
        kinds = ("a", "b", "c", "d")
        for items in permutations(("1 a", "20 b", "1000 d")):
            book = read_book("kinds a b c d\nm: " + " + ".join(items) + " -> nothing")
            self.assertEqual(book, (kinds, (("m", (1, 20, 0, 1000), (0, 0, 0, 0), (0, 0, 0, 0)),)))
        for items in permutations(("0..1 a", "20 b", "999..1000 d")):
            book = read_book("kinds a b c d\nm: nothing -> " + " + ".join(items))
            self.assertEqual(book, (kinds, (("m", (0, 0, 0, 0), (0, 20, 0, 999), (1, 20, 0, 1000)),)))


class KindsOfValuesTests(unittest.TestCase):
    """What is read is made of tuples, integers and strings alone (0.3)."""

    def check(self, value):
        if isinstance(value, tuple):
            for part in value:
                self.check(part)
        else:
            self.assertIn(type(value), (int, str))

    def test_what_is_read(self):
        self.check(read_book(FULL_TEXT))
        self.check(read_stock(FULL, "3 a + 4 f"))
        self.check(read_extended(FULL, "endless a + 4 f"))
        self.check(read_run(SHOP, "7 x (saw; saw); sell"))
        self.assertEqual(type(read_run(SHOP, "nothing")), tuple)
        self.assertEqual(type(read_stock(SHOP, "nothing")), tuple)

    def test_arguments_stay_as_they_are(self):
        texts = [print_book(SHOP), print_run(SHOP, nested_run(4)), print_stock(SHOP, (3, 4))]
        read_book(texts[0])
        read_run(SHOP, texts[1])
        read_stock(SHOP, texts[2])
        self.assertEqual(SHOP, (("wood", "gold"), (
            ("saw", (2, 0), (3, 0), (3, 0)), ("sell", (5, 0), (0, 1), (0, 2)),
        )))
        self.assertEqual(texts, [SHOP_TEXT, "3 x (2 x (1 x (saw)))", "3 wood + 4 gold"])


if __name__ == "__main__":
    unittest.main()
