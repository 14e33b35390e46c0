"""Tests of the rows that are asked whether one of them covers an extended stock."""

import unittest
from random import Random

from mintlaw.rows import FEW_ROWS, Rows
from tests.by_hand import covers_by_hand


class RowsTests(unittest.TestCase):
    def test_no_rows(self):
        self.assertIs(Rows().has_cover((0, 0)), False)
        self.assertIs(Rows().has_cover((-1,)), False)

    def test_what_is_without_end_everywhere(self):
        rows = Rows()
        rows.add((-1, -1))
        for row in ((-1, -1), (0, -1), (10 ** 40, 10 ** 40)):
            self.assertIs(rows.has_cover(row), True)

    def test_many_rows_by_hand(self):
        dice = Random(221)
        answers = []
        for width in range(1, 7):
            for top in (1, 3, 1000):
                taken = []
                rows = Rows()
                for _ in range(20 * FEW_ROWS):
                    row = tuple(dice.choice((-1, dice.randint(0, top), dice.randint(0, top))) for _ in range(width))
                    expected = any(covers_by_hand(other, row) for other in taken)
                    self.assertIs(rows.has_cover(row), expected, (taken, row))
                    answers.append(expected)
                    if dice.random() < 0.9 and row.count(-1) < 2:
                        rows.add(row)
                        taken.append(row)
        self.assertTrue(500 < sum(answers) < len(answers) - 500, sum(answers))

    def test_rows_of_which_none_covers_another_one(self):
        rows = Rows()
        for entry in range(1000):
            self.assertIs(rows.has_cover((entry, 1000 - entry)), False)
            rows.add((entry, 1000 - entry))
        for entry in range(1000):
            self.assertIs(rows.has_cover((entry, 1000 - entry)), True)
            self.assertIs(rows.has_cover((entry + 1, 1000 - entry)), False)

    def test_the_same_row_again_and_again(self):
        rows = Rows()
        for _ in range(5 * FEW_ROWS):
            rows.add((3, 3))
        self.assertIs(rows.has_cover((3, 3)), True)
        self.assertIs(rows.has_cover((3, 4)), False)


if __name__ == "__main__":
    unittest.main()
