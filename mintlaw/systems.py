"""Exact linear systems: points that solve them, and refutations."""

from mintlaw.errors import BadSystem
from mintlaw.integers import are_fractions, are_integers, is_integer
from mintlaw.simplex import least_cost
from mintlaw.vectors import weighted_sum

MAX_ENTRY = 1000000
MOST_ROWS = 20
MOST_COLUMNS = 20


def is_system(width, system):
    """Tell whether any value is a system of this width."""
    if not is_integer(width) or not 1 <= width <= MOST_COLUMNS:
        return False
    if not isinstance(system, tuple) or len(system) != 2:
        return False
    rows, bounds = system
    if not isinstance(rows, tuple) or len(rows) > MOST_ROWS:
        return False
    return are_entries(bounds, len(rows)) and all(are_entries(row, width) for row in rows)


def are_entries(value, width):
    """Tell whether any value is a tuple of so many integers that may stand in a system."""
    return are_integers(value, width, -MAX_ENTRY) and all(entry <= MAX_ENTRY for entry in value)


def must_be_system(width, system):
    """Raise BadSystem if any value is no system of this width."""
    if not is_system(width, system):
        raise BadSystem("not a system of this width")


def solves(width, system, point):
    """Tell whether any value is a point that solves the system; raise BadSystem if that is none."""
    must_be_system(width, system)
    if not are_fractions(point, width):
        return False
    rows, bounds = system
    numbers, over = point
    return all([weighted_sum(row, numbers) >= bound * over for row, bound in zip(rows, bounds)])


def refutes(width, system, refutation):
    """Tell whether any value is a refutation of the system; raise BadSystem if that is none."""
    must_be_system(width, system)
    rows, bounds = system
    if not are_integers(refutation, len(rows), 0) or weighted_sum(refutation, bounds) < 1:
        return False
    return all(entry <= 0 for entry in column_sums(width, rows, refutation))


def column_sums(width, rows, weights):
    """Return the sum of the rows, each multiplied by its weight."""
    return tuple([weighted_sum(weights, [row[at] for row in rows]) for at in range(width)])


def solve(width, system):
    """Return ("point", point), or ("none", refutation); raise BadSystem."""
    must_be_system(width, system)
    rows, bounds = system
    # Where all costs are 0, each point that solves the system is a best one.
    answer = least_cost(rows, bounds, (0,) * width)
    if answer[0] == "none":
        return answer
    return "point", answer[1]
