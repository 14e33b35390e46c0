"""Least values over exact linear systems, with the witness that nothing is less."""

from mintlaw.errors import BadSystem
from mintlaw.integers import are_fractions, are_integers
from mintlaw.simplex import least_cost
from mintlaw.systems import MAX_ENTRY, column_sums, must_be_system
from mintlaw.vectors import reduced, weighted_sum


def value(cost, point):
    """Return the value of a point as a pair without common factors."""
    numbers, over = point
    return reduced((weighted_sum(cost, numbers), over))


def is_cost(width, cost):
    """Tell whether any value is a cost for a system of this width."""
    return are_integers(cost, width, 0) and all(entry <= MAX_ENTRY for entry in cost)


def must_fit(width, system, cost):
    """Raise BadSystem if any values are no system of this width, or no cost for it."""
    must_be_system(width, system)
    if not is_cost(width, cost):
        raise BadSystem("not a cost for this width")


def shows(width, system, cost, witness):
    """Return the value that any value shows as a witness, or None if it is none; raise BadSystem."""
    must_fit(width, system, cost)
    rows, bounds = system
    if not are_fractions(witness, len(rows)):
        return None
    weights, over = witness
    sums = column_sums(width, rows, weights)
    if any([entry > limit * over for entry, limit in zip(sums, cost)]):
        return None
    return reduced((weighted_sum(weights, bounds), over))


def least(width, system, cost):
    """Return ("best", point, witness), or ("none", refutation); raise BadSystem."""
    must_fit(width, system, cost)
    rows, bounds = system
    return least_cost(rows, bounds, cost)
