"""Plans without deep pumps that lead as far as a pump that is nested too deep to be repeated."""

from mintlaw.extended import END, changed_by
from mintlaw.runs import change, step_effect
from mintlaw.search import Search, plan_to
from mintlaw.vectors import scaled

FIRST_LIMIT = 1
FIRST_PLACES = 100


def parts_for_pump(book, label, run):
    """Return parts of a plan for a label that lead at least as far as a pump, with pumps that are not deep."""
    search = Search(book)
    parts = ()
    for kind, more in enumerate(change(book, run)):
        if more > 0 and label[kind] != END:
            parts += parts_that_gain(search, label, run, kind)
    return parts


def parts_that_gain(search, label, run, kind):
    """Return parts that lead from a label to what covers it and is without end at a kind that a run gains.

    The run is played once, and somewhere on its way the search finds what gains the kind. A few units of
    what is there suffice as a rule; else the search goes further and further, at last as far as the run does.
    """
    points = points_of(search.world, label, run, ())
    limit = FIRST_LIMIT
    most = FIRST_PLACES
    while True:
        for there, path in paths_by_label(points, limit):
            wanted = there[:kind] + (END,) + there[kind + 1:]
            place = search.place_of(there, wanted, most)
            if place is not None:
                before, after = runs_around(run, path)
                return run_part(before) + plan_to(place) + run_part(after)
        limit = limit * 10
        most = most * 2


def points_of(book, label, run, path):
    """Return a list of the points on the way of a run: pairs of the label there and the path to the point.

    A path tells the index of a step, and then that of a step in its run, and so on; the point is in front
    of the last step. Where a run is repeated, it leads to the play in the middle, in which the most is there.
    """
    points = []
    for at, step in enumerate(run):
        points.append((label, (*path, at)))
        if step[0] == "rep":
            middle = changed_by(label, scaled(change(book, step[2]), step[1] // 2))
            points.extend(points_of(book, middle, step[2], (*path, at)))
        label = changed_by(label, step_effect(book, step)[1])
    return points


def paths_by_label(points, limit):
    """Return a list of pairs (label, path) for points, with entries up to a limit, each label once."""
    found = {}
    for label, path in points:
        found.setdefault(tuple([min(entry, limit) for entry in label]), path)
    return list(found.items())


def runs_around(run, path):
    """Return the runs before and behind the point to which a path leads in a run."""
    at = path[0]
    if len(path) == 1:
        return run[:at], run[at:]
    _, times, inner = run[at]
    half = times // 2
    before, after = runs_around(inner, path[1:])
    return run[:at] + plays(inner, half) + before, after + plays(inner, times - half - 1) + run[at + 1:]


def plays(run, times):
    """Return the run that plays a run so many times, from 0 on."""
    return (("rep", times, run),) if times > 0 else ()


def run_part(run):
    """Return a tuple of the part of a plan that plays a run; no part for the empty run."""
    return (("run", run),) if run != () else ()
