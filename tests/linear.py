"""Linear systems for the tests, and adding up by hand; the same systems in each test run."""

from fractions import Fraction
from random import Random

from tests.samples import in_form

GREATEST = 10 ** 6


def some_system(dice, width, many, greatest=GREATEST, share=1):
    """Return a system of this width with so many rows; `share` is how much of it is not 0."""
    rows = []
    for _ in range(many):
        rows.append(tuple(dice.randint(-greatest, greatest) if dice.random() < share else 0 for _ in range(width)))
    return tuple(rows), tuple(dice.randint(-greatest, greatest) for _ in range(many))


def right_systems():
    """Return pairs of a width and a system, of all sizes; many are solved and many are refuted."""
    dice = Random(41)
    pairs = [(1, ((), ())), (20, ((), ())), (1, (((0,),), (0,))), (1, (((0,),), (1,))), (1, (((1,), (-1,)), (5, -5))),
             (2, (((1, 1), (-1, 0)), (3, -1))), (1, (((1,), (-2,)), (2, -3))), (2, (((0, 0), (0, 0)), (-1, 1)))]
    for width in range(1, 21):
        for many in (1, 2, width, 20):
            greatest = dice.choice((1, 2, 10, 1000, GREATEST))
            pairs.append((width, some_system(dice, width, many, greatest, dice.choice((0.3, 0.7, 1)))))
    for _ in range(150):
        width = dice.randint(1, 4)
        pairs.append((width, some_system(dice, width, dice.randint(0, 6), dice.choice((1, 2, 5)))))
    return pairs + edge_systems()


def edge_systems():
    """Return pairs of a width and a system with extreme entries, equal rows, and rows against each other."""
    top = GREATEST
    pairs = [(20, (((top,) * 20,) * 20, (top,) * 20)), (20, (((-top,) * 20,) * 20, (top,) * 20)),
             (20, (((-top,) * 20,) * 20, (-top,) * 20)), (20, (((0,) * 20,) * 20, (0,) * 20)),
             (3, (((1, 2, 3), (-1, -2, -3)), (top, -top))), (3, (((1, 2, 3), (-1, -2, -3)), (top, 1 - top)))]
    # Each variable is at least a thousand times the one before it, and the last one is bounded from above.
    for bound in (0, -1, -top):
        rows = [tuple(-1000 if at == k else int(at == k + 1) for at in range(20)) for k in range(19)]
        rows.append(tuple(-int(at == 19) for at in range(20)))
        pairs.append((20, (tuple(rows), (0,) * 19 + (bound,))))
        pairs.append((20, (((1,) + (0,) * 19, *rows[:-1]), (1,) + (0,) * 19)))
    # The corners of a twisted cube, which lead some methods a long way.
    rows = []
    for k in range(10):
        rows.append(tuple(3 if at == k else -int(at == k - 1) for at in range(10)))
        rows.append(tuple(-3 if at == k else -int(at == k - 1) for at in range(10)))
    for last in (2, 3, 4):
        pairs.append((10, (tuple(rows), (0, -3) * 9 + (last, -3))))
    return pairs


def adds_up_to_point(system, point):
    """Tell whether a point solves a system."""
    numbers, over = point
    shares = [Fraction(number, over) for number in numbers]
    sums = [sum(entry * share for entry, share in zip(row, shares)) for row in system[0]]
    return min(shares) >= 0 and all(total >= bound for total, bound in zip(sums, system[1]))


def adds_up_to_refutation(width, system, refutation):
    """Tell whether integers refute a system."""
    rows, bounds = system
    sums = [sum(many * row[at] for many, row in zip(refutation, rows)) for at in range(width)]
    total = sum(many * bound for many, bound in zip(refutation, bounds))
    return len(refutation) == len(rows) and min((0, *refutation)) >= 0 and max(sums) <= 0 and total >= 1


def is_in_form(value, many):
    """Tell whether a value is a pair of so many integers from 0 on and an integer from 1 on."""
    if type(value) is not tuple or len(value) != 2:
        return False
    return in_form(value[0], many) and in_form(value[1:], 1) and value[1] >= 1
