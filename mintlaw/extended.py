"""Extended stocks: their order, and what is behind a run."""

from mintlaw.runs import covers, effect

END = -1


def in_order(rows):
    """Return the list of extended stocks in order: greater entries first, without end before all numbers."""
    return sorted(rows, key=place_in_order)


def place_in_order(row):
    """Return the key by which extended stocks are sorted, ascending."""
    return tuple([(int(entry != END), -entry) for entry in row])


def behind(book, label, run):
    """Return the extended stock behind a run, or None if the run is not allowed for the label."""
    needed, changed = effect(book, run)
    if not covers(label, needed):
        return None
    return tuple([
        END if entry == END else entry + more
        for entry, more in zip(label, changed)
    ])
