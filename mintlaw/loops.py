"""Loops that gain something where not all kinds are looked at, and runs that make their moves."""

from mintlaw.extended import END, changed_by
from mintlaw.prices import changes_by_kind, loop_step
from mintlaw.runs import covers
from mintlaw.simplex import least_cost
from mintlaw.vectors import scaled

MOST_TURNS = 30


def loops_that_gain(book, kinds):
    """Return a list of loops with no gain below 0 at some kinds, such that each of these is gained if it can be."""
    rows = changes_by_kind(book)
    loops = []
    for gained in kinds:
        bounds = tuple([int(kind == gained) for kind in kinds])
        # Short loops are the ones that are most likely to be playable.
        answer = least_cost([rows[kind] for kind in kinds], bounds, (1,) * len(book[1]))
        if answer[0] == "best" and answer[1][0] not in loops:
            loops.append(answer[1][0])
    return loops


def run_in_turns(label, moves, loop):
    """Return a run allowed for a label that makes the moves of a loop, or None if none is found.

    The moves have their turn one after the other, and each is made as often as it can be. `moves` has
    the need and the change of each move.
    """
    steps = []
    left = list(loop)
    for _ in range(MOST_TURNS):
        many = len(steps)
        for m, once in enumerate(moves):
            times = min(left[m], times_allowed(label, once, left[m]))
            if times > 0:
                steps.append(loop_step(m, times))
                left[m] -= times
                label = changed_by(label, scaled(once[1], times))
        if max(left) == 0:
            return tuple(steps)
        if len(steps) == many:
            return None
    return None


def times_allowed(label, once, most):
    """Return how often in a row a move with this need and change is allowed for a label, at most so often."""
    needed, changed = once
    if not covers(label, needed):
        return 0
    # The first time needs no more than is there, each further one as much more as those before have used up.
    return min([most] + [
        1 + (entry - low) // -step
        for entry, low, step in zip(label, needed, changed)
        if entry != END and step < 0
    ])
