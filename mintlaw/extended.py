"""Extended stocks: their order, and what is behind a run or a pump."""

from mintlaw.runs import covers, effect
from mintlaw.vectors import plus

END = -1


def in_order(rows):
    """Return the list of extended stocks in order: greater entries first, without end before all numbers."""
    return sorted(rows, key=place_in_order)


def place_in_order(row):
    """Return the key by which extended stocks are sorted, ascending."""
    return tuple([(int(entry != END), -entry) for entry in row])


def behind(book, label, run):
    """Return the extended stock behind a run, or None if the run is not allowed for the label."""
    needed, changed = effect(book, run)
    return changed_by(label, changed) if covers(label, needed) else None


def changed_by(label, changed):
    """Return an extended stock with what a run changes; entries without end stay without end."""
    if END not in label:
        return plus(label, changed)
    return tuple([
        END if entry == END else entry + more
        for entry, more in zip(label, changed)
    ])


def behind_pump(book, label, run):
    """Return the extended stock behind a pump, or None if the pump is not allowed for the label."""
    return pumped(label, effect(book, run))


def pumped(label, once):
    """Return the extended stock behind a pump with this need and change, or None if it is not allowed."""
    needed, changed = once
    if not covers(label, needed):
        return None
    if any([entry != END and more < 0 for entry, more in zip(label, changed)]):
        return None
    return tuple([END if more > 0 else entry for entry, more in zip(label, changed)])
