"""Playing a run many times without nesting it too deep."""

from mintlaw.extended import END
from mintlaw.runs import covers, need

# So often at most, a run that cannot stand in a repetition is written down again and again instead.
FEW_TIMES = 20
# So many steps at most are written down one behind the other.
MANY_STEPS = 20000


def depth_of(run):
    """Return how deep a run is nested."""
    return 1 + max([depth_of(step[2]) for step in run if step[0] == "rep"], default=0)


def repeated(book, label, run, times, deepest):
    """Return a run that makes the moves of a run so many times and is allowed for a label, or None if none is found.

    The run is nested at most `deepest` deep, and so is what is returned: where a repetition of the run
    itself would be nested deeper, the moves may come in another order. The run played so many times
    is allowed for the label.
    """
    if times <= 1:
        return run * times
    if depth_of(run) < deepest:
        return (("rep", times, run),)
    if times <= FEW_TIMES or deepest == 1:
        return run * times if len(run) * times <= MANY_STEPS else None
    turns = [((step,), (step,), (step,)) for step in run]
    for at, step in enumerate(run):
        if step[0] == "rep" and depth_of(step[2]) == deepest - 1:
            turn = turns_of_deep_step(book, label, turns, at, times, deepest)
            if turn is None:
                return None
            turns[at] = turn
    return in_turns(turns, times)


def turns_of_deep_step(book, label, turns, at, times, deepest):
    """Return what is made for a step that is too deep to be repeated: the first time, each time between, and the last.

    It is made all at once, the first time or the last time, if what is there suffices for that. If not, it
    stays where it is, and something within it is made all at once; or there is None, if that is not found.
    """
    step = turns[at][0][0]
    at_once = (("rep", step[1] * times, step[2]),)
    for turn in ((at_once, (), ()), ((), (), at_once)):
        run = in_turns([*turns[:at], turn, *turns[at + 1:]], times)
        if run is not None and covers(label, need(book, run)):
            return turn
    inner_label = tuple([END if entry == END else low for entry, low in zip(label, need(book, (step,)))])
    steps = repeated(book, inner_label, step[2], step[1], deepest - 1)
    return None if steps is None else (steps, steps, steps)


def in_turns(turns, times):
    """Return the run that makes, so many times, what is told for the first time, the times between, and the last.

    It is None if that is too much to be written down.
    """
    first, between, last = [joined(runs) for runs in zip(*turns)]
    if first == between == last:
        return (("rep", times, between),)
    if len(first) + len(last) > MANY_STEPS:
        return None
    if between == ():
        return first + last
    return first + (("rep", times - 2, between),) + last


def joined(runs):
    """Return the run of some runs one behind the other."""
    return tuple([step for run in runs for step in run])
