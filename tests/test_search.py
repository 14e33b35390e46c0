"""Tests of the search for all that can be had, and of the loops that it is led by (5.8)."""

import unittest
from itertools import product
from random import Random

from mintlaw.covering import greatest, is_report, report
from mintlaw.extended import behind
from mintlaw.loops import loops_that_gain, run_in_turns, times_allowed
from mintlaw.plans import end_of
from mintlaw.prices import free_kinds, gain
from mintlaw.runs import covers, move_change
from mintlaw.search import Place, Search, Waiting, has_grown, plan_to, run_of_moves
from mintlaw.texts import read_book
from tests.by_hand import behind_move, covers_by_hand, is_closed_by_hand, small_worlds
from tests.samples import BARE, MINT, SHOP, moves_of, right_books, some_book
from tests.test_covering import SALE

# A token must be turned between what is lost and what is gained, so no turns in the order of the moves do.
TOKENS = read_book(
    "kinds pp qq a b w\nf: 1 pp + 1 a -> 1 pp + 1 b\ng: 1 qq + 1 b -> 1 qq + 1 a + 1 w\npq: 1 pp -> 1 qq\nqp: 1 qq -> 1 pp"
)
# Three tokens in a ring: what is gained is gained by going all the way round with much in hand.
RING = read_book(
    "kinds a b c d\nout: 1 a + 2 d -> 1 b\nover: 1 b + 1 d -> 1 c\nback: 1 c -> 1 a + 4 d"
)


def has_grown_by_hand(before, label):
    """Tell whether an extended stock covers another one, with more at an entry that is not without end."""
    return covers_by_hand(label, before) and any(high != -1 and high > low for low, high in zip(before, label))


class SearchTests(unittest.TestCase):
    def test_pumps_that_no_turns_in_order_find(self):
        self.assertEqual(loops_that_gain(TOKENS, (0, 1, 2, 3, 4)), [(1, 1, 0, 0)])
        self.assertEqual(greatest(TOKENS, (1, 0, 1, 0, 0)), [(1, 0, 1, 0, -1), (1, 0, 0, 1, -1), (0, 1, 1, 0, -1),
                                                            (0, 1, 0, 1, -1)])
        self.assertEqual(greatest(TOKENS, (0, 1, 0, 0, 0)), [(1, 0, 0, 0, 0), (0, 1, 0, 0, 0)])
        self.assertEqual([row[4] for row in greatest(TOKENS, (1, 0, 3, 0, 0))], [-1] * 8)
        for stock in ((1, 0, 1, 0, 0), (2, 0, 3, 1, 7), (0, 1, 0, 2, 0)):
            found = report(TOKENS, stock)
            self.assertTrue(is_report(TOKENS, stock, found))
            self.assertTrue(is_closed_by_hand(TOKENS, stock, [row for row, _ in found]))

    def test_rings(self):
        self.assertEqual(greatest(RING, (1, 0, 0, 2)), [(1, 0, 0, 2), (0, 1, 0, 0)])
        self.assertEqual(greatest(RING, (1, 0, 0, 3)), [(1, 0, 0, -1), (0, 1, 0, -1), (0, 0, 1, -1)])
        self.assertEqual(greatest(RING, (0, 0, 1, 0)), [(1, 0, 0, -1), (0, 1, 0, -1), (0, 0, 1, -1)])

    def test_books_with_tokens(self):
        dice = Random(441)
        endless = 0
        for _ in range(120):
            moves = []
            for m in range(dice.randint(3, 6)):
                # Each move takes one token, and gives one back.
                here, there = dice.randrange(3), dice.randrange(3)
                take = [int(kind == here) for kind in range(3)] + [dice.choice((0, 0, 1, 2)) for _ in range(2)]
                most = [int(kind == there) for kind in range(3)] + [dice.choice((0, 0, 1, 2)) for _ in range(2)]
                moves.append((f"m{m}", tuple(take), tuple(most), tuple(most)))
            book = (("t", "u", "v", "a", "b"), tuple(moves))
            stock = (1, 0, 0, dice.randint(0, 3), dice.randint(0, 3))
            found = report(book, stock)
            rows = [row for row, _ in found]
            self.assertTrue(is_closed_by_hand(book, stock, rows))
            self.assertTrue(is_report(book, stock, found))
            endless += any(-1 in row for row in rows)
        self.assertTrue(20 < endless < 100, endless)

    def test_searches_in_one_book_one_after_the_other(self):
        dice = Random(442)
        for book in (TOKENS, RING, MINT, SHOP, BARE):
            search = Search(book)
            for _ in range(12):
                stock = tuple(dice.randint(0, 3) for _ in book[0])
                rows = [place.label for place in search.places(stock)]
                self.assertTrue(is_closed_by_hand(book, stock, rows))
                self.assertTrue(all(any(covers(row, other) for row in greatest(book, stock)) for other in rows))

    def test_plans_lead_to_their_places(self):
        for book, stock in small_worlds(443, 120):
            for place in Search(book).places(stock):
                self.assertEqual(end_of(book, stock, plan_to(place)), place.label)

    def test_what_is_wanted(self):
        search = Search(MINT)
        place = search.place_of((2, 0, 1), (0, 0, -1))
        self.assertEqual(place.label[2], -1)
        self.assertEqual(end_of(MINT, (2, 0, 1), plan_to(place)), place.label)
        self.assertIsNone(search.place_of((1, 0, 5), (0, 0, -1)))
        self.assertIsNone(search.place_of((2, 0, 1), (0, 0, -1), 0))
        self.assertIsNone(search.place_of((6, 0, 0), (0, 3, 0), 2))
        self.assertEqual(len(search.places((6, 0, 0), None, 2)), 2)
        self.assertEqual(search.place_of((6, 0, 0), (0, 3, 0), 9).label, (0, 3, 0))

    def test_the_same_move_again_and_again_is_one_step(self):
        found = report(SALE, (2001, 0))
        self.assertEqual(len(found), 1001)
        self.assertEqual(found[1000], ((1, 1000), (("run", (("rep", 1000, (("do", 0),)),)),)))
        self.assertTrue(is_report(SALE, (2001, 0), found))

    def test_long_ways(self):
        # The pump is behind a thousand moves, and there are very many places beside the way.
        book = read_book("kinds a b c d\nm: 1 a -> 1 b\nn: 1000 b -> 1 c\no: 1 c -> 1 c + 1 d\np: 1 b -> 1 a\nq: 1 c -> 1000 b")
        rows = greatest(book, (1000, 0, 0, 0))
        self.assertEqual([row for row in rows if row[3] != -1], [])
        self.assertEqual(len(rows), 1002)


class WaitingTests(unittest.TestCase):
    def test_turns(self):
        waiting = Waiting(2)
        for label in ((1, 1), (2, 1), (-1, 1), (3, 1), (4, 1), (1, -1), (-1, -1)):
            waiting.put(Place(label, None, None))
        taken = [waiting.taken().label for _ in range(7)]
        self.assertEqual(taken[:1], [(-1, -1)])
        self.assertEqual(sorted(taken[1:3]), [(-1, 1), (1, -1)])
        self.assertIn(taken[3:], ([(1, 1), (4, 1), (2, 1), (3, 1)], [(4, 1), (1, 1), (3, 1), (2, 1)]))
        self.assertIsNone(waiting.taken())


class StepTests(unittest.TestCase):
    def test_what_has_grown(self):
        rows = list(product((-1, 0, 1, 2), repeat=3))
        for before in rows:
            for label in rows:
                # What is without end stays so.
                if all(high == -1 or low != -1 for low, high in zip(before, label)):
                    self.assertIs(has_grown(before, label), has_grown_by_hand(before, label))

    def test_runs_of_moves(self):
        dice = Random(444)
        self.assertEqual(run_of_moves([]), ())
        self.assertEqual(run_of_moves([3, 3, 3, 1, 0, 0]), (("rep", 3, (("do", 3),)), ("do", 1), ("rep", 2, (("do", 0),))))
        for _ in range(200):
            moves = [dice.choice((0, 0, 1, 2)) for _ in range(dice.randint(0, 12))]
            run = run_of_moves(moves)
            self.assertEqual(moves_of(run), moves)
            for step, other in zip(run, run[1:]):
                self.assertNotEqual(step[-1][-1] if step[0] == "rep" else step, other[-1][-1] if other[0] == "rep" else other)


class LoopTests(unittest.TestCase):
    def test_loops_that_gain(self):
        dice = Random(445)
        for book in right_books():
            width = len(book[0])
            kinds = tuple(kind for kind in range(width) if dice.random() < 0.7)
            loops = loops_that_gain(book, kinds)
            gained = [tuple(gain(book, loop)[kind] for kind in kinds) for loop in loops]
            self.assertTrue(all(min(row) >= 0 and max(row) > 0 for row in gained))
            # A kind is gained just if it is free where each other one can be had for nothing.
            more = [(f"x{kind}", (0,) * width, (0,) * width, tuple(int(at == kind) for at in range(width)))
                    for kind in range(width) if kind not in kinds]
            if len(book[1]) + len(more) <= 8:
                free = free_kinds((book[0], book[1] + tuple(more)))
                for at, kind in enumerate(kinds):
                    self.assertIs(any(row[at] > 0 for row in gained), kind in free)

    def test_all_kinds(self):
        for book in right_books():
            kinds = tuple(range(len(book[0])))
            loops = loops_that_gain(book, kinds)
            gained = tuple(kind for kind in kinds if any(gain(book, loop)[kind] > 0 for loop in loops))
            self.assertEqual(gained, free_kinds(book))

    def test_runs_in_turns(self):
        dice = Random(446)
        found = 0
        for _ in range(600):
            book = some_book(dice, dice.randint(1, 4), dice.randint(1, 4), dice.choice((1, 2, 3)))
            moves = [(book[1][m][1], move_change(book, m)) for m in range(len(book[1]))]
            label = tuple(dice.choice((-1, 0, 1, 3, 9)) for _ in book[0])
            loop = [dice.choice((0, 1, 2, 5)) for _ in moves]
            loop[0] = max(1, loop[0])
            run = run_in_turns(label, moves, tuple(loop))
            if run is not None:
                made = moves_of(run)
                self.assertEqual([made.count(m) for m in range(len(moves))], loop)
                self.assertIsNotNone(behind(book, label, run))
                found += 1
        self.assertTrue(100 < found < 500, found)

    def test_runs_in_turns_by_hand(self):
        moves = [(move[1], move_change(RING, m)) for m, move in enumerate(RING[1])]
        self.assertEqual(run_in_turns((1, 0, 0, 3), moves, (1, 1, 1)), (("do", 0), ("do", 1), ("do", 2)))
        self.assertIsNone(run_in_turns((1, 0, 0, 2), moves, (1, 1, 1)))
        self.assertEqual(run_in_turns((0, 0, 1, 0), moves, (1, 1, 1)), (("do", 2), ("do", 0), ("do", 1)))
        self.assertEqual(run_in_turns((5, 0, 0, -1), moves, (9, 9, 9))[:1], (("rep", 5, (("do", 0),)),))
        # The second token is behind the first one: each round makes something.
        self.assertEqual(len(run_in_turns((1, 0, 0, 3), moves, (7, 7, 7))), 21)
        self.assertIsNone(run_in_turns((1, 0, 0, 3), moves, (10 ** 9, 10 ** 9, 10 ** 9)))

    def test_how_often_moves_are_allowed(self):
        for m, move in enumerate(SHOP[1]):
            for label in product((-1, 0, 1, 2, 5, 11), repeat=2):
                for most in (0, 1, 3):
                    many = 0
                    there = label
                    while many < most and behind_move(SHOP, there, m) is not None:
                        there = behind_move(SHOP, there, m)
                        many += 1
                    self.assertEqual(times_allowed(label, (move[1], move_change(SHOP, m)), most), many)


if __name__ == "__main__":
    unittest.main()
