"""Tuples of integers of the same length, taken together entry by entry."""

from math import gcd


def plus(first, second):
    """Return the sums, entry by entry."""
    return tuple([entry + other for entry, other in zip(first, second)])


def less(first, second):
    """Return the differences, entry by entry."""
    return tuple([entry - other for entry, other in zip(first, second)])


def scaled(entries, times):
    """Return each entry times the number."""
    return tuple([entry * times for entry in entries])


def weighted_sum(weights, entries):
    """Return the sum of weight times entry."""
    return sum([weight * entry for weight, entry in zip(weights, entries)])


def reduced(entries):
    """Return entries that are not all 0 without their common factors; so a pair is a fraction in its least terms."""
    common = 0
    for entry in entries:
        common = gcd(common, entry)
    return tuple([entry // common for entry in entries])
