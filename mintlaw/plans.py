"""Plans: runs and pumps that show what can be had without end, and the runs that they stand for."""

from mintlaw.books import MOST_DEPTH, is_run
from mintlaw.detours import parts_for_pump
from mintlaw.errors import BadPlan
from mintlaw.extended import END, behind, behind_pump
from mintlaw.nesting import joined, repeated
from mintlaw.runs import change, effect, greater
from mintlaw.vectors import less


def is_plan(book, value):
    """Tell whether any value has the form of a plan."""
    return isinstance(value, tuple) and all(is_part(book, part) for part in value)


def is_part(book, value):
    """Tell whether any value has the form of a part of a plan."""
    if not isinstance(value, tuple) or len(value) != 2:
        return False
    return value[0] in ("run", "pump") and value[1] != () and is_run(book, value[1])


def labels(book, stock, plan):
    """Return the list of the labels of a plan for a stock; raise BadPlan if there are none."""
    if not is_plan(book, plan):
        raise BadPlan("not a plan")
    return labels_of_parts(book, stock, plan)


def labels_of_parts(book, label, parts):
    """Return the list of the labels of some parts of a plan, from a label on; raise BadPlan if there are none."""
    found = [label]
    for part in parts:
        label = behind_part(book, label, part)
        if label is None:
            raise BadPlan("a part of the plan is not allowed")
        found.append(label)
    return found


def behind_part(book, label, part):
    """Return the label behind a part of a plan, or None if the part is not allowed for the label."""
    word, run = part
    return behind(book, label, run) if word == "run" else behind_pump(book, label, run)


def end_of(book, stock, plan):
    """Return the last label of a plan for a stock, or None if any value has no labels."""
    try:
        return labels(book, stock, plan)[-1]
    except BadPlan:
        return None


def run_for(book, stock, plan, number):
    """Return a run from a stock to the end of a plan, with at least the number where that is without end."""
    rows = labels(book, stock, plan)
    wanted = tuple([number if entry == END else entry for entry in rows[-1]])
    return run_of_parts(book, rows, plan, wanted)


def run_of_parts(book, rows, parts, wanted):
    """Return the run that is played for parts with these labels, to have what is wanted behind them."""
    runs = []
    # From the last part to the first: each tells how much the ones before it must leave of what is without end.
    for at in reversed(range(len(parts))):
        runs.append(run_of_part(book, rows[at], parts[at], wanted))
        wanted = wanted_before(book, rows[at], runs[-1], wanted)
    return joined(list(reversed(runs)))


def run_of_part(book, label, part, wanted):
    """Return the run that is played for a part, from a stock that has the label, to have what is wanted behind it."""
    word, run = part
    if word == "run":
        return run
    changed = change(book, run)
    times = max([plays_for(entry, more, low) for entry, more, low in zip(label, changed, wanted)])
    found = repeated(book, label, run, times, MOST_DEPTH)
    if found is None:
        parts = parts_for_pump(book, label, run)
        found = run_of_parts(book, labels_of_parts(book, label, parts), parts, wanted)
    return found


def plays_for(entry, more, wanted):
    """Return how many plays of a pump make what is wanted of an entry that they turn to one without end."""
    if entry == END or more == 0:
        return 0
    return max(0, -((entry - wanted) // more))


def wanted_before(book, label, run, wanted):
    """Return what must be there of each kind before a run, so that it can be played and leaves what is wanted."""
    needed, changed = effect(book, run)
    least = greater(needed, less(wanted, changed))
    return tuple([low if entry == END else entry for entry, low in zip(label, least)])
