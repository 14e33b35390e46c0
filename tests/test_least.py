"""Tests of least values over exact linear systems (3.5 to 3.7)."""

import unittest
from fractions import Fraction
from itertools import product
from math import gcd
from random import Random

from mintlaw.errors import BadSystem
from mintlaw.least import least, shows, value
from mintlaw.systems import refutes, solve, solves
from tests.linear import (
    GREATEST, adds_up_to_point, adds_up_to_refutation, is_in_form, right_systems, some_system,
)
from tests.samples import NO_INTEGERS, odd_values, spoilt

# At least 3 of both together, and at most 1 of the first one.
PAIR = (((1, 1), (-1, 0)), (3, -1))
COST = (2, 5)
WRONG = (*NO_INTEGERS, GREATEST + 1, -GREATEST - 1)


def value_by_hand(cost, numbers, over):
    """Return the sum of cost times number, over a denominator."""
    return Fraction(sum(entry * number for entry, number in zip(cost, numbers)), over)


def shown_by_hand(width, system, cost, witness):
    """Return the value that a witness in its form shows, or None."""
    weights, over = witness
    for at in range(width):
        if sum(many * row[at] for many, row in zip(weights, system[0])) > cost[at] * over:
            return None
    return value_by_hand(system[1], weights, over)


def some_costs(dice, width):
    """Return costs for a width."""
    return [(0,) * width, (1,) * width, (GREATEST,) * width, tuple(dice.choice((0, 1)) for _ in range(width)),
            tuple(dice.randint(0, GREATEST) for _ in range(width))]


class Fractions(unittest.TestCase):
    def is_the_fraction(self, pair, fraction):
        self.assertEqual(pair, (fraction.numerator, fraction.denominator))
        self.assertTrue(type(pair) is tuple and type(pair[0]) is int and type(pair[1]) is int)
        self.assertEqual(gcd(*pair), 1)
        self.assertGreaterEqual(pair[1], 1)


class ValueTests(Fractions):
    def test_examples(self):
        self.assertEqual(value((2, 5), ((1, 2), 1)), (12, 1))
        self.assertEqual(value((2, 5), ((1, 2), 3)), (4, 1))
        self.assertEqual(value((2, 5), ((1, 2), 8)), (3, 2))
        self.assertEqual(value((2, 5), ((0, 0), 7)), (0, 1))
        self.assertEqual(value((0, 0), ((4, 4), 6)), (0, 1))
        self.assertEqual(value((GREATEST,), ((10 ** 50,), 10 ** 53)), (1000, 1))

    def test_points_by_hand(self):
        dice = Random(51)
        for _ in range(200):
            width = dice.randint(1, 20)
            cost = dice.choice(some_costs(dice, width))
            numbers = tuple(dice.choice((0, dice.randint(0, 10 ** 30))) for _ in range(width))
            over = dice.choice((1, 2, 60, dice.randint(1, 10 ** 30)))
            self.is_the_fraction(value(cost, (numbers, over)), value_by_hand(cost, numbers, over))


class WitnessTests(Fractions):
    def test_examples(self):
        self.assertEqual(shows(2, PAIR, COST, ((5, 3), 1)), (12, 1))
        self.assertEqual(shows(2, PAIR, COST, ((10, 6), 2)), (12, 1))
        self.assertEqual(shows(2, PAIR, COST, ((2, 0), 1)), (6, 1))
        self.assertEqual(shows(2, PAIR, COST, ((3, 1), 2)), (4, 1))
        self.assertEqual(shows(2, PAIR, COST, ((0, 0), 5)), (0, 1))
        self.assertIsNone(shows(2, PAIR, COST, ((5, 2), 1)))
        self.assertIsNone(shows(2, PAIR, COST, ((6, 4), 1)))
        self.assertIsNone(shows(2, PAIR, COST, ((10, 6), 1)))

    def test_values_below_zero(self):
        self.assertEqual(shows(2, PAIR, COST, ((0, 6), 4)), (-3, 2))

    def test_systems_without_rows(self):
        for width in (1, 20):
            self.assertEqual(shows(width, ((), ()), (3,) * width, ((), 4)), (0, 1))
            self.assertIsNone(shows(width, ((), ()), (3,) * width, ((), 0)))
            self.assertIsNone(shows(width, ((), ()), (3,) * width, ((0,), 1)))

    def test_all_small_witnesses(self):
        for system in (PAIR, (((2, -3), (-3, 4)), (4, -1))):
            for first, second, over in product(range(7), range(7), range(1, 4)):
                witness = ((first, second), over)
                expected = shown_by_hand(2, system, COST, witness)
                answer = shows(2, system, COST, witness)
                if expected is None:
                    self.assertIsNone(answer, witness)
                else:
                    self.is_the_fraction(answer, expected)

    def test_values_that_are_no_witnesses(self):
        for witness in spoilt(((5, 3), 1), (True, False, None, "", "1", (), -1)):
            self.assertIsNone(shows(2, PAIR, COST, witness), witness)
        for witness in (((5, 3), 0), ((5, 3), -1), ((5, 3), True), ((True, 3), 1), ((5, 3, 0), 1), ((5,), 1), (5, 3),
                        ([5, 3], 1), [(5, 3), 1], ((-1, 0), 1), *odd_values()):
            self.assertIsNone(shows(2, PAIR, COST, witness), witness)

    def test_values_that_are_no_systems_or_costs(self):
        for witness in (((5, 3), 1), None):
            for system in (*spoilt(PAIR, WRONG), *odd_values()):
                if system != ((), ()):
                    with self.assertRaises(BadSystem):
                        shows(2, system, COST, witness)
            for cost in (*spoilt(COST, (*WRONG, -1)), *odd_values()):
                with self.assertRaises(BadSystem):
                    shows(2, PAIR, cost, witness)
            for width in (0, 1, 3, 21, -1, True, None):
                with self.assertRaises(BadSystem):
                    shows(width, PAIR, COST, witness)


class LeastTests(Fractions):
    def check(self, width, system, cost):
        answer = least(width, system, cost)
        self.assertIs(type(answer), tuple)
        if answer[0] == "none":
            self.assertEqual(len(answer), 2)
            self.assertTrue(adds_up_to_refutation(width, system, answer[1]), (system, answer))
            self.assertIs(refutes(width, system, answer[1]), True)
            return None
        word, point, witness = answer
        self.assertEqual(word, "best")
        self.assertTrue(is_in_form(point, width) and is_in_form(witness, len(system[0])), answer)
        self.assertTrue(adds_up_to_point(system, point), (system, answer))
        self.assertIs(solves(width, system, point), True)
        best = value_by_hand(cost, *point)
        self.assertEqual(shown_by_hand(width, system, cost, witness), best)
        self.is_the_fraction(value(cost, point), best)
        self.is_the_fraction(shows(width, system, cost, witness), best)
        return best

    def test_examples(self):
        self.assertEqual(self.check(2, PAIR, COST), 12)
        self.assertEqual(self.check(2, PAIR, (5, 2)), 6)
        self.assertEqual(self.check(2, PAIR, (1, 1)), 3)
        self.assertEqual(self.check(2, PAIR, (0, 0)), 0)
        self.assertEqual(self.check(2, (((3, 5),), (1,)), (1, 1)), Fraction(1, 5))
        self.assertEqual(self.check(2, (((3, 5),), (1,)), (1, 2)), Fraction(1, 3))
        self.assertEqual(self.check(1, (((7,),), (3,)), (GREATEST,)), Fraction(3 * GREATEST, 7))
        self.assertIsNone(self.check(1, (((1,), (-1,)), (2, -1)), (1,)))

    def test_systems_without_rows(self):
        for width in (1, 2, 20):
            for cost in some_costs(Random(52), width):
                self.assertEqual(self.check(width, ((), ()), cost), 0)

    def test_right_systems(self):
        dice = Random(53)
        above = 0
        for width, system in right_systems():
            word = solve(width, system)[0]
            for cost in some_costs(dice, width):
                best = self.check(width, system, cost)
                self.assertIs(best is None, word == "none")
                above += best is not None and best > 0
        self.assertGreater(above, 50)

    def test_the_greatest_systems(self):
        dice = Random(54)
        for greatest in (1, 100, GREATEST):
            for _ in range(6):
                rows, _ = some_system(dice, 20, 20, greatest)
                numbers = [dice.choice((0, 1, 2)) for _ in range(20)]
                bounds = tuple(sum(entry * number for entry, number in zip(row, numbers)) for row in rows)
                bounds = tuple(max(-GREATEST, min(GREATEST, bound)) for bound in bounds)
                for cost in some_costs(dice, 20):
                    self.check(20, (rows, bounds), cost)

    def test_no_small_point_is_better(self):
        dice = Random(55)
        for _ in range(80):
            system = some_system(dice, 2, dice.randint(1, 4), 4)
            cost = (dice.randint(0, 5), dice.randint(0, 5))
            best = self.check(2, system, cost)
            for first, second, over in product(range(9), range(9), range(1, 5)):
                point = ((first, second), over)
                if adds_up_to_point(system, point):
                    self.assertIsNotNone(best)
                    self.assertGreaterEqual(value_by_hand(cost, *point), best)

    def test_values_that_are_no_costs(self):
        for system in (PAIR, (((1, 1), (-1, -1)), (3, -1))):
            for cost in (*spoilt(COST, (*WRONG, -1)), (2, -1), (2,), (2, 5, 0), (GREATEST + 1, 0), (True, 5), [2, 5],
                         *odd_values()):
                with self.assertRaises(BadSystem):
                    least(2, system, cost)
        self.assertEqual(self.check(2, PAIR, (0, GREATEST)), 2 * GREATEST)

    def test_values_that_are_no_systems(self):
        for system in (*spoilt(PAIR, WRONG), *odd_values()):
            if system != ((), ()):
                with self.assertRaises(BadSystem):
                    least(2, system, COST)
        for width in (0, 1, 3, 21, -2, 10 ** 5000, True, None):
            with self.assertRaises(BadSystem):
                least(width, PAIR, COST)


if __name__ == "__main__":
    unittest.main()
