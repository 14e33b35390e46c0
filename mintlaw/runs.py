"""Play: what can be done from a stock, what a run needs and changes, and where it stops."""

from mintlaw.books import ENDLESS
from mintlaw.vectors import less, plus, scaled


def covers(stock, other):
    """Tell whether a stock or an extended stock has at least as much as another one, at each entry."""
    for high, low in zip(stock, other):
        if high != ENDLESS and (low == ENDLESS or low > high):
            return False
    return True


def can_do(book, stock, m):
    """Tell whether a move can be done from a stock."""
    return covers(stock, book[1][m][1])


def done(book, stock, m):
    """Return the stock behind a move, whether it can be done or not."""
    return plus(stock, move_change(book, m))


def move_change(book, m):
    """Return what a move changes if it gives the most."""
    return less(book[1][m][3], book[1][m][1])


def need(book, run):
    """Return the least stock from which a run can be played."""
    return effect(book, run)[0]


def change(book, run):
    """Return by how much the end of a run differs from its beginning."""
    return effect(book, run)[1]


def effect(book, run):
    """Return the need and the change of a run."""
    nothing = (0,) * len(book[0])
    both = (nothing, nothing)
    for step in run:
        both = effect_of_two(both, step_effect(book, step))
    return both


def step_effect(book, step):
    """Return the need and the change of a step of a run."""
    if step[0] == "do":
        return book[1][step[1]][1], move_change(book, step[1])
    return effect_of_many(effect(book, step[2]), step[1])


def effect_of_two(first, second):
    """Return the need and the change of two runs one behind the other."""
    needed = greater(first[0], less(second[0], first[1]))
    return needed, plus(first[1], second[1])


def effect_of_many(once, times):
    """Return the need and the change of a run that is played so many times."""
    needed, changed = once
    before_last = scaled(changed, times - 1)
    return greater(needed, less(needed, before_last)), plus(before_last, changed)


def greater(first, second):
    """Return the greater ones, entry by entry."""
    return tuple([max(entry, other) for entry, other in zip(first, second)])


def length(run):
    """Return the number of moves that are done when a run is played."""
    return sum([step_length(step) for step in run])


def step_length(step):
    """Return the number of moves that are done when a step of a run is played."""
    return 1 if step[0] == "do" else step[1] * length(step[2])


def end_of_run(book, stock, run):
    """Return the stock behind a run, or None if it cannot be played from the stock."""
    needed, changed = effect(book, run)
    return plus(stock, changed) if covers(stock, needed) else None


def stops_at(book, stock, run):
    """Return None if a run can be played from a stock, otherwise the number of moves behind which it stops."""
    if covers(stock, need(book, run)):
        return None
    return moves_done(book, stock, run)


def moves_done(book, stock, run):
    """Return how many moves of a run can be done from a stock, from the first one on."""
    count = 0
    for step in run:
        needed, changed = step_effect(book, step)
        if not covers(stock, needed):
            return count + moves_done_of_step(book, stock, step)
        stock = plus(stock, changed)
        count += step_length(step)
    return count


def moves_done_of_step(book, stock, step):
    """Return how many moves can be done of a step that cannot be played to its end."""
    if step[0] == "do":
        return 0
    run = step[2]
    once = effect(book, run)
    times = whole_plays(stock, once)
    behind = plus(stock, scaled(once[1], times))
    return times * length(run) + moves_done(book, behind, run)


def whole_plays(stock, once):
    """Return how often a run with this need and change can be played, if not for ever."""
    needed, changed = once
    if not covers(stock, needed):
        return 0
    # The first play needs no more than is there, each further one as much more as the ones before have used up.
    return 1 + min([
        (entry - low) // -step
        for entry, low, step in zip(stock, needed, changed)
        if step < 0
    ])
