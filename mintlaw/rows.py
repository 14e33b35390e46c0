"""Extended stocks, kept so that it is quickly told whether one of them covers another one."""

from mintlaw.extended import END
from mintlaw.runs import greater

FEW_ROWS = 12


class Rows:
    """Extended stocks; those that are without end at the same kinds lie together."""

    def __init__(self):
        self.trees = {}

    def add(self, row):
        """Take a further extended stock."""
        kinds = finite_kinds(row)
        entries = at_kinds(row, kinds)
        if kinds in self.trees:
            self.trees[kinds].add(entries)
        else:
            self.trees[kinds] = Tree([entries])

    def has_cover(self, row):
        """Tell whether one of the extended stocks covers this one."""
        finite = finite_kinds(row)
        for kinds, tree in self.trees.items():
            if all(kind in finite for kind in kinds) and tree.has_cover(at_kinds(row, kinds)):
                return True
        return False


class Tree:
    """Rows of integers, parted by their entries: a few rows, or a low and a high part.

    `most` has the greatest entry of each column, so that a part may be passed over.
    """

    def __init__(self, rows):
        self.rows = rows
        self.most = tuple([max(column) for column in zip(*rows)])
        self.column = 0
        self.limit = 0
        self.low = None
        self.high = None

    def add(self, row):
        """Take a further row."""
        part = self
        while part.low is not None:
            part.most = greater(part.most, row)
            part = part.high if row[part.column] >= part.limit else part.low
        part.most = greater(part.most, row)
        part.rows.append(row)
        if len(part.rows) > FEW_ROWS:
            part.halve()

    def halve(self):
        """Part the rows in the column with the most different entries, if they differ."""
        columns = [sorted(set(column)) for column in zip(*self.rows)]
        many = [len(entries) for entries in columns]
        if max(many, default=1) == 1:
            return
        self.column = many.index(max(many))
        entries = columns[self.column]
        self.limit = entries[len(entries) // 2]
        self.low = Tree([row for row in self.rows if row[self.column] < self.limit])
        self.high = Tree([row for row in self.rows if row[self.column] >= self.limit])
        self.rows = []

    def has_cover(self, row):
        """Tell whether a row has at least these entries."""
        waiting = [self]
        while waiting:
            part = waiting.pop()
            if is_at_least(part.most, row):
                if part.low is not None:
                    waiting.append(part.low)
                    waiting.append(part.high)
                elif any(is_at_least(other, row) for other in part.rows):
                    return True
        return False


def finite_kinds(row):
    """Return the tuple of the indexes of the entries that are not without end."""
    return tuple([kind for kind, entry in enumerate(row) if entry != END])


def at_kinds(row, kinds):
    """Return the tuple of the entries at some kinds."""
    return tuple([row[kind] for kind in kinds])


def is_at_least(row, other):
    """Tell whether a row has at least the entries of another one; none is without end."""
    for entry, low in zip(row, other):
        if entry < low:
            return False
    return True
