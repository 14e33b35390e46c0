"""Tests of exact linear systems (3.1 to 3.4)."""

import unittest
from random import Random

from mintlaw.errors import BadSystem
from mintlaw.systems import MAX_ENTRY, is_system, refutes, solve, solves
from tests.linear import (
    GREATEST, adds_up_to_point, adds_up_to_refutation, is_in_form, right_systems, some_system,
)
from tests.samples import NO_INTEGERS, odd_values, spoilt

PAIR = (((1, 1), (-1, 0)), (3, -1))
AGAINST = (((1,), (-2,)), (2, -3))
WRONG = (*NO_INTEGERS, GREATEST + 1, -GREATEST - 1)


class SystemTests(unittest.TestCase):
    def test_the_greatest_entry(self):
        self.assertEqual(MAX_ENTRY, 10 ** 6)
        for entry in (10 ** 6, -(10 ** 6)):
            self.assertIs(is_system(1, (((entry,),), (0,))), True)
            self.assertIs(is_system(1, (((0,),), (entry,))), True)
        for entry in WRONG:
            self.assertIs(is_system(1, (((entry,),), (0,))), False)
            self.assertIs(is_system(1, (((0,),), (entry,))), False)

    def test_right_systems(self):
        for width, system in right_systems():
            self.assertIs(is_system(width, system), True)
            self.assertIs(is_system(width + 1, system), system == ((), ()) and width < 20)

    def test_widths(self):
        for width in range(-1, 24):
            self.assertIs(is_system(width, ((), ())), 1 <= width <= 20)
            self.assertIs(is_system(width, (((1,) * max(width, 0),), (1,))), 1 <= width <= 20)
        for width in (*NO_INTEGERS, 10 ** 30, -(10 ** 30)):
            self.assertIs(is_system(width, ((), ())), False)
            self.assertIs(is_system(width, (((1,),), (1,))), False)

    def test_numbers_of_rows(self):
        for many in range(24):
            self.assertIs(is_system(2, (((1, 2),) * many, (3,) * many)), many <= 20)
            self.assertIs(is_system(2, (((1, 2),) * many, (3,) * (many + 1))), False)
            self.assertIs(is_system(2, (((1, 2),) * (many + 1), (3,) * many)), False)

    def test_systems_spoilt_in_one_place(self):
        dice = Random(42)
        for width, system in [(2, PAIR), (1, AGAINST), (7, some_system(dice, 7, 5)), (20, some_system(dice, 20, 3))]:
            for value in spoilt(system, WRONG):
                self.assertIs(is_system(width, value), False, value)

    def test_other_values(self):
        for value in odd_values():
            for width in (1, 2, 20):
                self.assertIs(is_system(width, value), value == ((), ()), value)
            self.assertIs(is_system(1, (value, ())), value == ())
            self.assertIs(is_system(1, ((), value)), value == ())
            self.assertIs(is_system(1, ((value,), (1,))), False)
            self.assertIs(is_system(1, (((1,),), value)), False)


class PointTests(unittest.TestCase):
    def test_examples(self):
        self.assertIs(solves(2, PAIR, ((1, 2), 1)), True)
        self.assertIs(solves(2, PAIR, ((2, 5), 2)), True)
        self.assertIs(solves(2, PAIR, ((1, 1), 1)), False)
        self.assertIs(solves(2, PAIR, ((2, 2), 1)), False)
        self.assertIs(solves(2, PAIR, ((3, 5), 2)), False)
        self.assertIs(solves(2, PAIR, ((0, 3 * 10 ** 50), 10 ** 50)), True)
        self.assertIs(solves(2, PAIR, ((0, 3 * 10 ** 50 - 1), 10 ** 50)), False)

    def test_systems_without_rows(self):
        for width in (1, 2, 20):
            self.assertIs(solves(width, ((), ()), ((0,) * width, 1)), True)
            self.assertIs(solves(width, ((), ()), ((7,) * width, 10 ** 30)), True)
            self.assertIs(solves(width, ((), ()), ((7,) * width, 0)), False)

    def test_all_small_points(self):
        for system in (PAIR, (((2, -3), (-3, 4)), (0, -1)), (((1, -1), (-1, 1)), (0, 0))):
            for first in range(6):
                for second in range(6):
                    for over in range(1, 5):
                        point = ((first, second), over)
                        self.assertIs(solves(2, system, point), adds_up_to_point(system, point), (system, point))

    def test_values_that_are_no_points(self):
        point = ((1, 2), 1)
        for value in spoilt(point, (True, False, None, "", "1", (), -1, -2)):
            self.assertIs(solves(2, PAIR, value), False, value)
        for value in (((1, 2), 0), ((1, 2), -1), ((-1, 9), 1), ((1, 2, 0), 1), ((2,), 1), ((1, True), 1),
                      ((1, 2), True), ((False, 3), 1), (1, 2), [(1, 2), 1], ([1, 2], 1), *odd_values()):
            self.assertIs(solves(2, PAIR, value), False, value)
        self.assertIs(solves(1, ((), ()), ((), 1)), False)

    def test_values_that_are_no_systems(self):
        for value in (*spoilt(PAIR, WRONG), *odd_values()):
            if value == ((), ()):
                continue
            for point in (((1, 2), 1), None, ()):
                with self.assertRaises(BadSystem):
                    solves(2, value, point)
        for width in (0, 1, 3, 21, -2, 10 ** 5000, True, None):
            with self.assertRaises(BadSystem):
                solves(width, PAIR, ((1, 2), 1))


class RefutationTests(unittest.TestCase):
    def test_examples(self):
        self.assertIs(refutes(1, AGAINST, (2, 1)), True)
        self.assertIs(refutes(1, AGAINST, (2 * 10 ** 50, 10 ** 50)), True)
        self.assertIs(refutes(1, AGAINST, (1, 1)), False)
        self.assertIs(refutes(1, AGAINST, (3, 1)), False)
        self.assertIs(refutes(1, AGAINST, (3, 2)), False)
        self.assertIs(refutes(1, AGAINST, (0, 0)), False)
        self.assertIs(refutes(1, (((0,),), (1,)), (1,)), True)
        self.assertIs(refutes(1, (((0,),), (0,)), (1,)), False)
        self.assertIs(refutes(1, ((), ()), ()), False)

    def test_each_column_counts(self):
        system = (((0, -1, 5), (0, -1, -5)), (1, 1))
        for first in range(5):
            for second in range(5):
                expected = adds_up_to_refutation(3, system, (first, second))
                self.assertIs(refutes(3, system, (first, second)), expected)

    def test_values_that_are_no_refutations(self):
        for value in spoilt((2, 1), (True, False, None, "", "1", (), -1, -2)):
            self.assertIs(refutes(1, AGAINST, value), False, value)
        for value in (((2, 1),), [2, 1], (2, 1, 0), (2, 1, -1), (2, True), *odd_values()):
            self.assertIs(refutes(1, AGAINST, value), False, value)
        self.assertIs(refutes(1, (((0,),), (1,)), (True,)), False)
        # Integers below 0 would add up to a refutation of what a point solves.
        self.assertIs(refutes(1, (((1,),), (-1,)), (-1,)), False)

    def test_values_that_are_no_systems(self):
        for value in (*spoilt(AGAINST, WRONG), *odd_values()):
            if value == ((), ()):
                continue
            for refutation in ((2, 1), None, ()):
                with self.assertRaises(BadSystem):
                    refutes(1, value, refutation)
        for width in (0, 2, 21, -1, 10 ** 5000, True, "1"):
            with self.assertRaises(BadSystem):
                refutes(width, AGAINST, (2, 1))


class SolveTests(unittest.TestCase):
    def check(self, width, system):
        word, found = solve(width, system)
        if word == "point":
            self.assertTrue(is_in_form(found, width), found)
            self.assertTrue(adds_up_to_point(system, found), (system, found))
            self.assertIs(solves(width, system, found), True)
        else:
            self.assertEqual(word, "none")
            self.assertTrue(is_in_form((found, 1), len(system[0])), found)
            self.assertTrue(adds_up_to_refutation(width, system, found), (system, found))
            self.assertIs(refutes(width, system, found), True)
        return word

    def test_right_systems(self):
        words = [self.check(width, system) for width, system in right_systems()]
        self.assertGreater(words.count("point"), 80)
        self.assertGreater(words.count("none"), 80)

    def test_the_greatest_systems(self):
        dice = Random(43)
        words = []
        for share in (0.2, 0.5, 1):
            for greatest in (1, 3, 1000, GREATEST):
                words.extend(self.check(20, some_system(dice, 20, 20, greatest, share)) for _ in range(5))
        self.assertGreater(words.count("none"), 10)
        self.assertGreater(words.count("point"), 10)

    def test_systems_with_a_known_point(self):
        dice = Random(44)
        for _ in range(60):
            width = dice.randint(1, 20)
            rows, _ = some_system(dice, width, dice.randint(1, 20), 1000)
            numbers = [dice.choice((0, 0, 1, dice.randint(0, 40))) for _ in range(width)]
            bounds = tuple(sum(entry * number for entry, number in zip(row, numbers)) for row in rows)
            self.assertEqual(self.check(width, (rows, bounds)), "point")

    def test_systems_with_a_known_refutation(self):
        dice = Random(45)
        for _ in range(60):
            width = dice.randint(1, 20)
            rows, bounds = some_system(dice, width, dice.randint(1, 19), 50)
            weights = [dice.choice((0, 1, 2, 5)) for _ in rows]
            # The last row and these weights of the other ones add up to nothing, and their bounds to 1.
            last = tuple(-sum(many * row[at] for many, row in zip(weights, rows)) for at in range(width))
            bound = 1 - sum(many * bound for many, bound in zip(weights, bounds))
            self.assertEqual(self.check(width, ((*rows, last), (*bounds, bound))), "none")

    def test_just_solved_and_just_refuted(self):
        for bound, word in ((-6, "point"), (-5, "point"), (-4, "none"), (0, "none")):
            self.assertEqual(self.check(2, (((1, 1), (-1, -1)), (5, bound))), word)
        self.assertEqual(self.check(1, (((3,), (-3,)), (1, -1))), "point")
        self.assertEqual(self.check(2, (((GREATEST, -1), (-GREATEST, 1)), (1, 0))), "none")
        self.assertEqual(self.check(2, (((GREATEST, -1), (1 - GREATEST, 1)), (1, 0))), "point")

    def test_bounds_that_a_point_of_zeros_keeps(self):
        for width in (1, 5, 20):
            system = (((-3,) * width,) * 4, (0, -1, -GREATEST, 0))
            self.assertEqual(self.check(width, system), "point")

    def test_values_that_are_no_systems(self):
        for value in (*spoilt(PAIR, WRONG), *odd_values()):
            if value != ((), ()):
                with self.assertRaises(BadSystem):
                    solve(2, value)
        for width in (0, 1, 3, 21, -2, 10 ** 5000, True, None):
            with self.assertRaises(BadSystem):
                solve(width, PAIR)
        for width in (0, 21, -1):
            with self.assertRaises(BadSystem):
                solve(width, ((), ()))


if __name__ == "__main__":
    unittest.main()
